"""Trees: deeds folded in any grouping, and a value shared out to them."""

from joinedasks.deeds import is_deed, joined, made, need_value
from joinedasks.errors import NoDeed, NoNumber, NoTree
from joinedasks.whole import is_whole, is_within

MOST_DEEDS = 40


def need_many(thing):
    """Refuses what is no number of deeds that a tree may be over."""
    if not is_within(thing, 1, MOST_DEEDS):
        raise NoNumber("a tree is over one to forty deeds")


def is_tree(thing, many):
    """Whether the thing is a tree over so many deeds."""
    need_many(many)
    # Looked at from left to right, and no further than to the first wrong number: a thing may hold
    # the same tuples again and again, and so have far more places than could be gone through.
    todo = [thing]
    reached = 0
    while todo:
        part = todo.pop()
        if isinstance(part, tuple) and len(part) == 2:
            todo.append(part[1])
            todo.append(part[0])
        elif is_whole(part) and part == reached:
            reached += 1
        else:
            return False
    return reached == many


def need_deeds(thing):
    """Refuses what is no row of one to forty deeds."""
    row = isinstance(thing, tuple) and 1 <= len(thing) <= MOST_DEEDS
    if not row or not all([is_deed(deed) for deed in thing]):
        raise NoDeed("a tree is over a row of one to forty deeds")


def need_tree(thing, many):
    """Refuses what is no tree over so many."""
    if not is_tree(thing, many):
        raise NoTree("a tree has the numbers of all deeds, from left to right")


def deed_of(deeds, tree):
    """The deeds folded by the tree; both are known to be right."""
    if is_whole(tree):
        return deeds[tree]
    return joined(deed_of(deeds, tree[0]), deed_of(deeds, tree[1]))


def folded(deeds, tree):
    """The one deed that the deeds make, folded by the tree."""
    need_deeds(deeds)
    need_tree(tree, len(deeds))
    return deed_of(deeds, tree)


def share(deeds, tree, value, values):
    """Appends to the values what comes to the tree's deeds of the value, and tells their deed."""
    if is_whole(tree):
        values.append(value)
        return deeds[tree]
    left = share(deeds, tree[0], value, values)
    right = share(deeds, tree[1], made(left, value), values)
    return joined(left, right)


def shared_out(deeds, tree, value):
    """The values that come to the deeds, where this one is shared out by the tree."""
    need_value(value)
    need_deeds(deeds)
    need_tree(tree, len(deeds))
    values = []
    share(deeds, tree, value, values)
    return tuple(values)


def halved_from(first, many):
    """The halved tree of so many numbers, from the first one on."""
    if many == 1:
        return first
    left = (many + 1) // 2
    return (halved_from(first, left), halved_from(first + left, many - left))


def halved(many):
    """The tree over so many with as many, or one more, in its left half as in its right one."""
    need_many(many)
    return halved_from(0, many)


def chained(many):
    """The tree ((0, 1), 2), and so on, over so many."""
    need_many(many)
    tree = 0
    for number in range(1, many):
        tree = (tree, number)
    return tree
