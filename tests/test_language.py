"""The rules of LANGUAGE.md, for every file of the package.

Only what the package needs of the language is let through here; where the rules allow more than
that (try, stored sets, lambdas, nested functions, f-strings, methods with the names of builtin ones ..)
this file is to grow with the package.
"""

import ast
import builtins
import io
import keyword
import pathlib
import re
import tokenize
import unittest
import warnings

PACKAGE = "joinedasks"
FOLDER = pathlib.Path(__file__).resolve().parent.parent / PACKAGE

NODES = (
    ast.Module, ast.FunctionDef, ast.ClassDef, ast.arguments, ast.arg, ast.ImportFrom, ast.alias,
    ast.Assign, ast.AugAssign, ast.If, ast.While, ast.For, ast.Return, ast.Break, ast.Continue,
    ast.Pass, ast.Raise, ast.Expr, ast.Constant, ast.List, ast.Tuple, ast.Dict, ast.Name,
    ast.Attribute, ast.Subscript, ast.Slice, ast.Call, ast.Compare, ast.BoolOp, ast.BinOp,
    ast.UnaryOp, ast.IfExp, ast.ListComp, ast.DictComp, ast.comprehension, ast.expr_context, ast.boolop,
    ast.operator, ast.unaryop, ast.cmpop,
)
BARRED_NODES = (ast.Div, ast.MatMult)
LITERALS = (ast.Constant, ast.List, ast.Tuple, ast.Dict)
ERRORS = (
    "Exception ValueError TypeError KeyError IndexError LookupError ZeroDivisionError "
    "ArithmeticError OverflowError RuntimeError NotImplementedError"
).split()
BUILTINS = (
    "len range enumerate zip min max sum abs sorted reversed int str bool list tuple dict set "
    "isinstance ord repr any all divmod"
).split() + ERRORS
KINDS = "int str bool list tuple dict".split()
ON_THE_SPOT = ("zip", "enumerate", "reversed", "range")
VIEWS = ("items", "keys", "values")
TAKERS = "list tuple dict sorted sum any all enumerate zip min max".split()
METHODS = (
    "append clear copy count endswith extend find get index insert isalnum isalpha isdigit islower "
    "isspace isupper items join keys ljust lower lstrip partition pop remove replace reverse rfind "
    "rjust rpartition rsplit rstrip setdefault split splitlines startswith strip update upper values "
    "zfill bit_length removeprefix removesuffix rindex isascii isdecimal isnumeric"
).split()
FREE_ATTRIBUTES = "count index title find get join lower upper split strip copy add".split()
TAKEN_NAMES = {name for kind in (str, int, list, dict, set, bytes, tuple) for name in dir(kind)}
MODIFYING = "append clear extend insert pop remove reverse setdefault update".split()
BARRED_NAMES = (
    "register mro elements open input version_info with_traceback add_note attrgetter breakpoint "
    "builtins compile copyright credits delattr dir eval exec exit gc getattr globals hasattr help "
    "id importlib license locals methodcaller os quit setattr super type vars sys format format_map"
).split()
BARRED_WORDS = re.compile(
    r"\b(type|typing|typing_extensions|enum|Enum|IntEnum|StrEnum|Flag|IntFlag|Generic|Protocol|ABC|"
    r"ABCMeta|namedtuple|NamedTuple|TypedDict|TYPE_CHECKING|abstractmethod)\b"
    r"|dataclass|overload|contextmanager"
)
BARRED_FILES = re.compile(r"law_.*|test|tests|testing|test_.*|site|conftest|sitecustomize|usercustomize")
ESCAPE = re.compile(r"\\(?![nt\\'\"])")


def parents_of(tree):
    """Each node's parent."""
    return {child: node for node in ast.walk(tree) for child in ast.iter_child_nodes(node)}


def is_docstring(node):
    return isinstance(node, ast.Expr) and isinstance(node.value, ast.Constant) and isinstance(node.value.value, str)


def text_faults(text):
    """L10, L14, L17, L27: what can be seen in the text alone."""
    lines = text.split("\n")
    if len(lines) > 401:
        yield "L10 a file of more than 400 lines"
    for at, line in enumerate(lines, 1):
        if len(line) > 120:
            yield f"L10 line {at} is too long"
        if re.search(r"[^ -~]", line):
            yield f"L14 line {at} has another sign"
        if BARRED_WORDS.search(line):
            yield f"L17 line {at} has a barred word"
    for token in tokenize.generate_tokens(io.StringIO(text).readline):
        if token.type == tokenize.STRING:
            if "%" in token.string:
                yield f"L27 line {token.start[0]} has a percent sign in a string"
            if ESCAPE.search(token.string) or not token.string[0] in "'\"":
                yield f"L27 line {token.start[0]} has another escape or prefix"


def warning_faults(text):
    with warnings.catch_warnings():
        warnings.simplefilter("error")
        try:
            compile(text, "file", "exec")
        except (SyntaxError, Warning) as fault:
            yield f"L27 Python warns: {fault}"


def bound_names(tree):
    """Each binding of a name, with its node."""
    for node in ast.walk(tree):
        if isinstance(node, (ast.FunctionDef, ast.ClassDef)):
            yield node.name, node
        elif isinstance(node, ast.arg):
            yield node.arg, node
        elif isinstance(node, ast.alias):
            yield node.asname or node.name, node
        elif isinstance(node, ast.Name) and not isinstance(node.ctx, ast.Load):
            yield node.id, node


def module_names(tree):
    """What is bound at module level, in order."""
    for node in tree.body:
        if isinstance(node, ast.Assign):
            for target in node.targets:
                yield target.id if isinstance(target, ast.Name) else "?"
        elif isinstance(node, ast.ImportFrom):
            for alias in node.names:
                yield alias.name
        elif isinstance(node, (ast.FunctionDef, ast.ClassDef)):
            yield node.name


def is_plain(node, functions=()):
    """Whether this is a plain value, computed of literals alone, or a table of such and of these functions."""
    allowed = LITERALS + (ast.BinOp, ast.UnaryOp, ast.operator, ast.USub, ast.Load)
    tables = [part for part in ast.walk(node) if isinstance(part, (ast.List, ast.Tuple, ast.Dict))]
    listed = [item for table in tables for item in (table.values if isinstance(table, ast.Dict) else table.elts)]
    for part in ast.walk(node):
        function = isinstance(part, ast.Name) and part in listed and part.id in functions
        if not function and not isinstance(part, allowed):
            return False
    if isinstance(node, (ast.List, ast.Dict)):
        inner = list(ast.walk(node))[1:]
        return not any(isinstance(part, (ast.List, ast.Dict)) for part in inner)
    return True


def module_faults(tree):
    """L2, L3, L15, L16: what stands at module level."""
    for at, node in enumerate(tree.body):
        if isinstance(node, (ast.FunctionDef, ast.ClassDef, ast.ImportFrom)):
            continue
        if is_docstring(node) and at == 0:
            continue
        single = isinstance(node, ast.Assign) and len(node.targets) == 1
        above = [part.name for part in tree.body[:at] if isinstance(part, ast.FunctionDef)]
        if not (single and isinstance(node.targets[0], ast.Name) and is_plain(node.value, above)):
            yield f"L3 line {node.lineno}: no such statement at module level"
    names = list(module_names(tree))
    for name in names:
        if names.count(name) > 1:
            yield f"L15 {name} is bound twice"


def import_faults(tree, modules):
    """L2, L16: imports name the very file that defines the name. Modules are trees by full names."""
    for node in ast.walk(tree):
        if not isinstance(node, ast.ImportFrom):
            continue
        if node not in tree.body or node.level or node.module not in modules:
            yield f"L2 line {node.lineno}: no such import"
            continue
        source = modules[node.module]
        own = [part.name for part in source.body if isinstance(part, (ast.FunctionDef, ast.ClassDef))]
        own += [part.targets[0].id for part in source.body if isinstance(part, ast.Assign)]
        for alias in node.names:
            if alias.asname or alias.name not in own:
                yield f"L16 line {node.lineno}: {alias.name} is not of that file"
    places = [at for at, node in enumerate(tree.body) if isinstance(node, ast.ImportFrom)]
    others = [at for at, node in enumerate(tree.body) if not isinstance(node, ast.ImportFrom) and not is_docstring(node)]
    if places and others and max(places) > min(others):
        yield "L2 an import stands below other things"


def cycle_faults(modules):
    """L16: no two files import from each other, through others neither."""
    reached = {
        name: {node.module for node in ast.walk(tree) if isinstance(node, ast.ImportFrom)}
        for name, tree in modules.items()
    }
    for turn in modules:
        for name in reached:
            reached[name] = reached[name].union(*[reached.get(other, set()) for other in reached[name]])
    return [f"L16 {name} imports itself" for name in reached if name in reached[name]]


def function_faults(node, parents):
    """L4, L10, L28: one function."""
    given = node.args
    if given.vararg or given.kwarg or given.posonlyargs or given.kwonlyargs or node.decorator_list:
        yield f"L4 {node.name}: parameters are plain, decorators are none"
    if not all(is_plain(value) for value in given.defaults):
        yield f"L4 {node.name}: default values are plain"
    if not isinstance(parents[node], (ast.Module, ast.ClassDef)):
        yield f"L4 {node.name} is nested: not looked at here"
    if node.end_lineno - node.lineno + 1 > 40:
        yield f"L10 {node.name} has more than 40 lines"
    if node.name.startswith("__") and (node.name != "__init__" or isinstance(parents[node], ast.Module)):
        yield f"L5 {node.name} is not looked at here"


def class_faults(node, parents):
    """L5, L15: one class."""
    if len(node.bases) > 1 or node.keywords or node.decorator_list or not isinstance(parents[node], ast.Module):
        yield f"L5 {node.name}: one base at most, at module level"
    for part in node.body:
        if not isinstance(part, ast.FunctionDef) and not (is_docstring(part) and part == node.body[0]):
            yield f"L5 {node.name} has more than methods"


def name_faults(tree):
    """L8, L12, L15, L17: names that are bound, and names that are read."""
    imports = [alias.name for node in ast.walk(tree) if isinstance(node, ast.ImportFrom) for alias in node.names]
    classes = [node.name for node in tree.body if isinstance(node, ast.ClassDef)]
    bound = [name for name, node in bound_names(tree)]
    for name, node in bound_names(tree):
        dunder = name in ("__init__", "__all__", "__version__")
        if not dunder and not re.fullmatch(r"[A-Za-z][A-Za-z0-9_]*", name):
            yield f"L12 {name}"
        if name in BARRED_NAMES:
            yield f"L17 {name}"
        if hasattr(builtins, name) and not dunder:
            yield f"L8 {name} is given another meaning"
        if isinstance(node, (ast.arg, ast.Name)) and name in imports + classes:
            yield f"L15 {name} is a class or an import of its file"
    for node in ast.walk(tree):
        if isinstance(node, ast.Name) and node.id not in bound and node.id not in BUILTINS:
            yield f"L8 line {node.lineno}: {node.id} is none of the builtins"


def methods_of(trees):
    """The names of the methods of all classes, with the classes that have them."""
    found = {}
    for tree in trees:
        for node in ast.walk(tree):
            if isinstance(node, ast.ClassDef):
                for part in node.body:
                    if isinstance(part, ast.FunctionDef):
                        found.setdefault(part.name, []).append((node.name, part))
    return found


def attributes_of(trees):
    """The names of the attributes that are assigned anywhere."""
    nodes = [node for tree in trees for node in ast.walk(tree) if isinstance(node, ast.Attribute)]
    return {node.attr for node in nodes if not isinstance(node.ctx, ast.Load)}


def member_faults(tree, parents, modules):
    """L18, L26, L28: methods and attributes."""
    trees = list(modules.values()) + [tree]
    methods, attributes = methods_of(trees), attributes_of(trees)
    for name in sorted(attributes):
        if name in methods:
            yield f"L18 {name} is a method and an attribute"
        if name in TAKEN_NAMES and name not in FREE_ATTRIBUTES:
            yield f"L26 an attribute is called {name}"
    for name, owners in methods_of([tree]).items():
        owner_names = [owner for owner, part in owners]
        if len(set(owner_names)) != len(owner_names):
            yield f"L18 {name} is defined twice"
        if name != "__init__" and name in TAKEN_NAMES:
            yield f"L26 a method is called {name}"
        for owner, part in owners:
            returns = [node for node in ast.walk(part) if isinstance(node, ast.Return)]
            if name == "__init__" and returns:
                yield "L28 __init__ returns"
            if not part.args.args or part.args.args[0].arg != "self":
                yield f"L4 {name} has no self"
    for node in ast.walk(tree):
        if isinstance(node, ast.Attribute):
            called = isinstance(parents[node], ast.Call) and parents[node].func == node
            if not called and node.attr not in attributes:
                yield f"L18 line {node.lineno}: {node.attr} is assigned nowhere"
            if not isinstance(node.ctx, ast.Load) and not isinstance(node.value, ast.Name):
                yield f"L18 line {node.lineno}: {node.attr} is not assigned through a local name"


def takes(part, given, bound):
    """Whether the function takes so many arguments by place; bound is how many are given anyway."""
    most = len(part.args.args) - bound
    return most - len(part.args.defaults) <= given <= most


def argument_faults(tree, modules):
    """L22: each call of an own function, class or method passes what it takes."""
    functions = {}
    for node in tree.body:
        if isinstance(node, ast.ImportFrom) and node.module in modules:
            names = [alias.name for alias in node.names]
            for part in modules[node.module].body:
                if isinstance(part, (ast.FunctionDef, ast.ClassDef)) and part.name in names:
                    functions[part.name] = part
        elif isinstance(node, (ast.FunctionDef, ast.ClassDef)):
            functions[node.name] = node
    methods = methods_of(list(modules.values()) + [tree])
    for node in ast.walk(tree):
        if not isinstance(node, ast.Call):
            continue
        where = f"L22 line {node.lineno}"
        if isinstance(node.func, ast.Name):
            part = functions.get(node.func.id)
            if isinstance(part, ast.FunctionDef) and (node.keywords or not takes(part, len(node.args), 0)):
                yield f"{where}: {part.name} takes other arguments"
            if isinstance(part, ast.ClassDef):
                begin = [own for own in part.body if isinstance(own, ast.FunctionDef) and own.name == "__init__"]
                if begin and not takes(begin[0], len(node.args), 1):
                    yield f"{where}: {part.name} takes other arguments"
        elif isinstance(node.func, ast.Attribute) and node.func.attr in methods:
            if not any(takes(part, len(node.args), 1) for owner, part in methods[node.func.attr]):
                yield f"{where}: {node.func.attr} takes other arguments"


def call_faults(node, parents, classes, methods):
    """L7, L22, L23, L25: one call."""
    where = f"line {node.lineno}"
    if isinstance(node.func, LITERALS):
        yield f"L7 {where}: a literal is called"
    if isinstance(node.func, ast.Subscript):
        yield f"L3 {where}: a function of a table is called without a name"
    if isinstance(node.func, ast.Attribute):
        if node.keywords:
            yield f"L22 {where}: a method has keywords"
        if node.func.attr not in METHODS and node.func.attr not in methods:
            yield f"L25 {where}: {node.func.attr}"
        if node.func.attr in VIEWS:
            yield from spot_faults(node, parents)
    if not isinstance(node.func, ast.Name):
        return
    name = node.func.id
    if name in ON_THE_SPOT:
        yield from spot_faults(node, parents)
    if name in BUILTINS and [word.arg for word in node.keywords if word.arg not in ("key", "reverse", "default", "start")]:
        yield f"L22 {where}: keywords of a builtin"
    if name == "isinstance":
        kinds = node.args[1].elts if isinstance(node.args[1], ast.Tuple) else [node.args[1]]
        if not all(isinstance(kind, ast.Name) and kind.id in KINDS + ERRORS + classes for kind in kinds):
            yield f"L22 {where}: isinstance"


def set_faults(tree, parents):
    """L24: a set is counted or sorted where it is made."""
    for node in ast.walk(tree):
        if not (isinstance(node, ast.Name) and node.id == "set"):
            continue
        made = parents[node]
        taker = parents[made]
        right = isinstance(made, ast.Call) and made.func == node and isinstance(taker, ast.Call)
        if not right or getattr(taker.func, "id", "") not in ("len", "sorted") or taker.keywords:
            yield f"L24 line {node.lineno}: a set is kept"


def spot_faults(node, parents):
    """L23: what is iterated at once."""
    parent = parents[node]
    if isinstance(parent, (ast.For, ast.comprehension)) and parent.iter == node:
        return
    if isinstance(parent, ast.Call) and isinstance(parent.func, ast.Name) and parent.func.id in TAKERS:
        return
    if isinstance(parent, ast.Compare) and isinstance(parent.ops[-1], (ast.In, ast.NotIn)):
        return
    yield f"L23 line {node.lineno}: not iterated on the spot"


def loop_faults(node):
    """L6, L23: one loop."""
    if node.orelse:
        yield f"L6 line {node.lineno}: else after a loop"
    if isinstance(node, ast.While):
        return
    gone_over = {part.id for part in ast.walk(node.iter) if isinstance(part, ast.Name)}
    for part in [inner for statement in node.body for inner in ast.walk(statement)]:
        target = None
        if isinstance(part, ast.Subscript) and not isinstance(part.ctx, ast.Load):
            target = part.value
        if isinstance(part, ast.Call) and isinstance(part.func, ast.Attribute) and part.func.attr in MODIFYING:
            target = part.func.value
        if isinstance(target, ast.Name) and target.id in gone_over:
            yield f"L23 line {part.lineno}: {target.id} is modified in its loop"


def class_use_faults(tree, parents, classes):
    """L18: where a class's name may stand."""
    for node in ast.walk(tree):
        if not isinstance(node, ast.Name) or node.id not in classes:
            continue
        parent = parents[node]
        called = isinstance(parent, ast.Call) and (parent.func == node or parent.func.id == "isinstance")
        if not called and not (isinstance(parent, ast.ClassDef) and node in parent.bases):
            yield f"L18 line {node.lineno}: {node.id} is passed on"


def expression_faults(node, parents, classes):
    """L7, L19, L20, L27: single nodes."""
    where = f"line {getattr(node, 'lineno', '?')}"
    if not isinstance(node, NODES + (ast.keyword,)) or isinstance(node, BARRED_NODES):
        yield f"L6, L7 {where}: {node.__class__.__name__} is not looked at here"
    if isinstance(node, ast.Constant) and not (node.value is None or isinstance(node.value, (int, str))):
        yield f"L7 {where}: another literal"
    if isinstance(node, ast.Compare) and any(isinstance(sign, (ast.Is, ast.IsNot)) for sign in node.ops):
        last = node.comparators[-1]
        if len(node.ops) > 1 or not (isinstance(last, ast.Constant) and last.value in (None, True, False)):
            yield f"L20 {where}: is"
    if isinstance(node, ast.BinOp) and isinstance(node.op, ast.Pow):
        if not (isinstance(node.right, ast.Constant) and node.right.value in range(65)):
            yield f"L27 {where}: a power with another exponent"
    if isinstance(node, ast.Raise):
        made = node.exc.func if isinstance(node.exc, ast.Call) else None
        if node.cause or not isinstance(made, ast.Name) or made.id not in classes:
            yield f"L19 {where}: raise"
    if isinstance(node, ast.Expr) and not is_docstring(node) and not isinstance(node.value, ast.Call):
        yield f"L6 {where}: an expression on its own"
    if isinstance(node, ast.Attribute) and (node.attr in BARRED_NAMES or node.attr.startswith("_")):
        yield f"L17 {where}: {node.attr}"


def constants_of(modules):
    """The lists and dicts at module level of any file."""
    return {
        node.targets[0].id
        for tree in modules.values()
        for node in tree.body
        if isinstance(node, ast.Assign) and isinstance(node.value, (ast.List, ast.Dict))
    }


def constant_faults(tree, parents, tables):
    """L15: a list or dict at module level is only read."""
    for node in ast.walk(tree):
        if not (isinstance(node, ast.Name) and node.id in tables and isinstance(node.ctx, ast.Load)):
            continue
        parent = parents[node]
        read = isinstance(parent, (ast.Compare, ast.For, ast.comprehension))
        read = read or isinstance(parent, ast.Subscript) and isinstance(parent.ctx, ast.Load)
        read = read or isinstance(parent, ast.Attribute) and parent.attr not in MODIFYING
        read = read or isinstance(parent, ast.Call) and getattr(parent.func, "id", "") in BUILTINS
        if not read:
            yield f"L15 line {node.lineno}: {node.id} is passed on or modified"


def file_faults(text, modules):
    """All that is wrong with a file's text."""
    found = list(text_faults(text)) + list(warning_faults(text))
    with warnings.catch_warnings():
        warnings.simplefilter("ignore")
        tree = ast.parse(text)
    parents = parents_of(tree)
    classes = [node.name for other in modules.values() for node in other.body if isinstance(node, ast.ClassDef)]
    classes += [node.name for node in tree.body if isinstance(node, ast.ClassDef)]
    found += list(module_faults(tree)) + list(import_faults(tree, modules)) + list(name_faults(tree))
    found += list(class_use_faults(tree, parents, classes))
    found += list(constant_faults(tree, parents, constants_of(modules)))
    found += list(set_faults(tree, parents))
    found += list(member_faults(tree, parents, modules)) + list(argument_faults(tree, modules))
    methods = methods_of(list(modules.values()) + [tree])
    for node in ast.walk(tree):
        found += expression_faults(node, parents, classes)
        if isinstance(node, ast.FunctionDef):
            found += function_faults(node, parents)
        if isinstance(node, ast.ClassDef):
            found += class_faults(node, parents)
        if isinstance(node, ast.Call):
            found += call_faults(node, parents, classes, methods)
        if isinstance(node, (ast.For, ast.While)):
            found += loop_faults(node)
    return found


def package_files():
    return [path for path in sorted(FOLDER.rglob("*")) if "__pycache__" not in path.parts]


def package_modules():
    names = {f"{PACKAGE}.{path.stem}": path for path in package_files() if path.stem != "__init__"}
    return {name: ast.parse(path.read_text("ascii")) for name, path in names.items()}


class Package(unittest.TestCase):
    def test_the_folder(self):
        paths = package_files()
        self.assertIn(FOLDER / "__init__.py", paths)
        self.assertLessEqual(len(paths), 100)
        for path in paths:
            self.assertEqual(path.parent, FOLDER)
            self.assertEqual(path.suffix, ".py")
            if path.name != "__init__.py":
                self.assertRegex(path.stem, r"\A[a-z][a-z0-9_]*\Z")
                barred = BARRED_FILES.fullmatch(path.stem) or BARRED_WORDS.fullmatch(path.stem)
                self.assertFalse(barred or hasattr(builtins, path.stem) or keyword.iskeyword(path.stem), path)

    def test_each_file(self):
        modules = package_modules()
        for path in package_files():
            self.assertEqual(file_faults(path.read_text("ascii"), modules), [], path)

    def test_no_two_files_import_from_each_other(self):
        self.assertEqual(cycle_faults(package_modules()), [])

    def test_the_init_binds_no_name_of_a_file(self):
        bound = list(module_names(ast.parse((FOLDER / "__init__.py").read_text("ascii"))))
        self.assertEqual([path.stem for path in package_files() if path.stem in bound], [])


WRONG = {
    "L2": ["from sys import argv\n", "from . import deeds\n", "A = 1\nfrom joinedasks.deeds import done\n"],
    "L3": ["len([])\n", "if True:\n    A = 1\n", "A = len([])\n", "A = B = 1\n", "A = [[1]]\n", "import sys\n"] + [
        "A = [f]\n\n\ndef f():\n    return 1\n",
        "def f():\n    return 1\n\n\nA = f\n",
        "def f():\n    return 1\n\n\nA = {f: 1}\n",
        "def f():\n    return 1\n\n\nA = [f + 1]\n",
        "def f():\n    return 1\n\n\nA = [f]\n\n\ndef g():\n    return A[0]()\n",
    ],
    "L4": ["def f(*xs):\n    return xs\n", "def f(xs=len([])):\n    return xs\n", "@len\ndef g():\n    return 1\n"],
    "L5": ["class A:\n    b = 1\n", "class A(KeyError, ValueError):\n    pass\n", "def __len__():\n    return 1\n"],
    "L6": [
        "def f():\n    global k\n",
        "def f(k):\n    k\n",
        "def f(ks):\n    for k in ks:\n        pass\n    else:\n        pass\n",
        "def f(k):\n    return 1 / k\n",
        "def f(ks):\n    return any(k for k in ks)\n",
    ],
    "L7": ["A = 1.5\n", "A = b''\n"],
    "L8": ["def f(k):\n    return chr(k)\n", "def f(hash):\n    return hash\n"],
    "L10": ["A = 1\n" * 401, "A = " + "1 + " * 40 + "1\n", "def f():\n" + "    k = 1\n" * 40],
    "L12": ["def f(_):\n    return 1\n", "_a = 1\n"],
    "L14": ["A = '\u00e4'\n", "if True:\n\tA = 1\n"],
    "L15": ["A = 1\nA = 2\n", "class A:\n    pass\n\n\ndef f(A):\n    return 1\n"],
    "L16": [
        "from joinedasks.deeds import NoDeed\n",
        "from joinedasks.deeds import done as did\n",
        "from joinedasks.deeds import *\n",
    ],
    "L17": ["# of that type\n", "def f(os):\n    return os\n", "def f(k):\n    return k.mro\n"],
    "L18": [
        "class A:\n    pass\n\n\ndef f():\n    return [A]\n",
        "class A:\n    def beat(self):\n        self.beat = 1\n",
        "class A:\n    def __init__(self):\n        self.waiting = 1\n",
        "class A:\n    def now(self):\n        return 1\n",
        "class A:\n    def f(self):\n        return self.nowhere\n",
        "class A:\n    def f(self):\n        return 1\n\n    def f(self):\n        return 2\n",
        "def f(k):\n    k.one.other = 1\n",
    ],
    "L19": ["def f():\n    raise ValueError\n", "def f(e):\n    raise e\n"],
    "L20": ["def f(j, k):\n    return j is k\n", "def f(j, k):\n    return j is not k\n"],
    "L22": [
        "def f(k):\n    return isinstance(k, k)\n",
        "def f(k):\n    return int(k, base=2)\n",
        "def f(k):\n    return f(k, k)\n",
        "def f(j, k):\n    return f(k)\n",
        "from joinedasks.net import way\n\n\ndef f(k):\n    return way(k, k)\n",
        "class A:\n    def f(self, k):\n        return self.f()\n",
        "class A:\n    def __init__(self, k):\n        pass\n\n\ndef f():\n    return A()\n",
    ],
    "L23": [
        "def f(k):\n    return range(k)\n",
        "def f(k):\n    return k.items()\n",
        "def f(ks):\n    for k in ks:\n        ks.append(k)\n",
        "def f(ks):\n    for at, k in enumerate(ks):\n        ks[at] = k\n",
    ],
    "L24": [
        "def f(ks):\n    return set(ks)\n",
        "def f(ks):\n    return [k for k in set(ks)]\n",
        "def f(ks):\n    seen = set()\n    return ks in seen\n",
        "def f(ks):\n    return sorted(set(ks), reverse=True)\n",
        "def f(ks):\n    return len(ks, set)\n",
    ],
    "L25": ["def f(k):\n    return k.encode()\n", "def f(k):\n    return k.union(k)\n"],
    "L26": [
        "class A:\n    def decode(self):\n        return 1\n",
        "class A:\n    def __init__(self):\n        self.values = 1\n",
    ],
    "L28": ["class A:\n    def __init__(self):\n        return None\n"],
    "L27": ["def f(k):\n    return 2 ** k\n", "A = 'a%'\n", "A = '\\x41'\n", "A = 1if 2 else 3\n"],
}
WRITTEN_TABLE = "A = [1]\n\n\ndef f():\n    A.append(1)\n"


class Checks(unittest.TestCase):
    """A check that finds nothing wrong anywhere would be none."""

    def test_each_wrong_file_is_found(self):
        modules = package_modules()
        for rule, texts in WRONG.items():
            for text in texts:
                faults = file_faults(text, modules)
                self.assertTrue([fault for fault in faults if fault.startswith(rule)], (rule, text, faults))

    def test_written_tables_are_found(self):
        faults = file_faults(WRITTEN_TABLE, {"joinedasks.a": ast.parse(WRITTEN_TABLE)})
        self.assertTrue([fault for fault in faults if fault.startswith("L15")], faults)

    def test_tables_of_functions_are_let_through(self):
        begin = "def f():\n    return 1\n\n\n"
        for table in ("A = [f]\n", "A = (f, 1)\n", "A = {1: f}\n", "A = {1: (2, f)}\n"):
            self.assertEqual(file_faults(begin + table, {}), [], table)

    def test_cycles_are_found(self):
        modules = {
            "joinedasks.a": ast.parse("from joinedasks.b import f\n"),
            "joinedasks.b": ast.parse("from joinedasks.c import f\n"),
            "joinedasks.c": ast.parse("from joinedasks.a import f\n"),
        }
        self.assertEqual(len(cycle_faults(modules)), 3)


if __name__ == "__main__":
    unittest.main()
