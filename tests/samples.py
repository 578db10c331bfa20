"""Things that several tests hand in."""

import itertools
import random

BIG = 10 ** 29 + 7

ENDS = (None, -2, 0, 1, 3)


def all_deeds(adds, ends):
    """Every deed with one of these adds, its ends of these."""
    pairs = [(low, high) for low in ends for high in ends]
    loose = [(low, high) for low, high in pairs if None in (low, high) or low < high]
    alike = [(0, low, high) for low, high in pairs if low is not None and low == high]
    return [(add, low, high) for add in adds for low, high in loose] + alike


DEEDS = all_deeds((-2, -1, 0, 1, 3), ENDS)
FEW_DEEDS = all_deeds((-2, 0, 1), (None, -1, 2))
BIG_DEEDS = [
    (BIG, None, None),
    (-BIG, None, None),
    (BIG, -BIG, BIG),
    (-3, BIG, None),
    (7, None, -BIG),
    (0, BIG, BIG),
]
VALUES = range(-9, 10)


def plainly(deed, value):
    """What the deed makes of the value, by the words of promise 5."""
    add, low, high = deed
    result = value + add
    if low is not None:
        result = max(result, low)
    if high is not None:
        result = min(result, high)
    return result


def nested(depth, inmost, outer):
    """The inmost thing, so many times within an outer one."""
    thing = inmost
    for level in range(depth):
        thing = outer(thing)
    return thing


# No numbers, no tuples, no texts.
ODD_THINGS = [
    True,
    False,
    None,
    [],
    [0],
    [0, None, None],
    {},
    {0: 1},
    set(),
    frozenset((1,)),
    b"",
    b"look",
    range(3),
    object(),
    int,
    len,
    Ellipsis,
    nested(60, 0, lambda thing: [thing]),
    nested(60, 0, lambda thing: {"in": thing}),
]

ODD_TUPLES = [
    (),
    (0,),
    (None,),
    ((),),
    ("look",),
    nested(60, 0, lambda thing: (thing,)),
    nested(60, 0, lambda thing: (thing, thing)),
]

ODD_TEXTS = ["", "0", "look", "(0, None, None)"]

NO_NUMBERS = ODD_THINGS + ODD_TUPLES + ODD_TEXTS

NO_DEEDS = ODD_THINGS + ODD_TUPLES + ODD_TEXTS + [
    0,
    5,
    (0, None),
    (0, None, None, None),
    [0, 1, 2],
    (True, None, None),
    (False, None, None),
    (None, None, None),
    ("0", None, None),
    ((0,), None, None),
    ([0], None, None),
    (0, True, None),
    (0, False, None),
    (0, None, True),
    (0, None, False),
    (0, False, True),
    (0, "1", None),
    (0, None, "1"),
    (0, [1], None),
    (0, None, (1,)),
    (0, 2, 1),
    (1, 0, -1),
    (0, BIG + 1, BIG),
    (1, 2, 2),
    (-1, 0, 0),
    (BIG, BIG, BIG),
    ((0, None, None),),
    ((0, None, None), (0, None, None)),
]

# The depths that a net has not.
NO_NETS = NO_NUMBERS + [-1, 5, 6, BIG, -BIG]


def figures_of(k, line):
    """The line's k binary figures, the greatest first."""
    return [line // 2 ** (k - place) % 2 for place in range(1, k + 1)]


def by_figures(figures):
    """The line with these figures."""
    line = 0
    for figure in figures:
        line = 2 * line + figure
    return line


def plain_way(k, hand, side):
    """The way from the hand to the side, by the words of promise 12."""
    hands, sides = figures_of(k, hand), figures_of(k, side)
    return tuple(by_figures(sides[:level] + hands[level:]) for level in range(k + 1))


def rows_of_marks(k, marks):
    """As settings of a net so deep these marks, one for each switch."""
    many = 2 ** k // 2
    return tuple(tuple(marks[stage * many:stage * many + many]) for stage in range(k))


def all_settings(k):
    """All settings of a net so deep."""
    return [rows_of_marks(k, marks) for marks in itertools.product((0, 1), repeat=k * 2 ** k // 2)]


def some_settings(k):
    """All settings of a net at most two deep, and some of a deeper one: each switch crossed at least once."""
    if k < 3:
        return all_settings(k)
    many = k * 2 ** k // 2
    single = [[int(at == place) for at in range(many)] for place in range(many)]
    chance = random.Random(k)
    mixed = [[chance.randrange(2) for at in range(many)] for turn in range(40)]
    return [rows_of_marks(k, marks) for marks in [[0] * many, [1] * many] + single + mixed]


def no_settings(k):
    """What is no settings of a net so deep."""
    many = 2 ** k // 2
    right = ((0,) * many,) * k
    wrong = [thing for thing in NO_NUMBERS if k > 0 or thing != ()] + [0, 1, right + ((0,) * many,), right + ((),)]
    if k == 0:
        return wrong
    wrong += [right[1:], list(right), (right,), right[0], tuple(list(row) for row in right)]
    for place in range(k):
        for row in [thing for thing in NO_NUMBERS if k > 1 or thing != (0,)] + [0, (0,) * (many + 1), (0,) * (many - 1), [0] * many]:
            wrong.append(right[:place] + (row,) + right[place + 1:])
        for at in (0, many - 1):
            for mark in NO_NUMBERS + [-1, 2, BIG]:
                row = (0,) * at + (mark,) + (0,) * (many - 1 - at)
                wrong.append(right[:place] + (row,) + right[place + 1:])
    return wrong


NO_TUPLES_OF_TWO = ODD_THINGS + ODD_TUPLES + ODD_TEXTS + [0, (0,), (0, 0, 0), [0, 0], ((0, 0),), "00", {0: 0, 1: 0}]
