"""Things that several tests hand in."""

BIG = 10 ** 29 + 7

ENDS = (None, -2, 0, 1, 3)


def all_deeds(adds, ends):
    """Every deed with one of these adds, its ends of these."""
    pairs = [(low, high) for low in ends for high in ends]
    loose = [(low, high) for low, high in pairs if None in (low, high) or low < high]
    alike = [(0, low, high) for low, high in pairs if low is not None and low == high]
    return [(add, low, high) for add in adds for low, high in loose] + alike


DEEDS = all_deeds((-2, -1, 0, 1, 3), ENDS)
FEW_DEEDS = all_deeds((-2, 0, 1), (None, -1, 2))
BIG_DEEDS = [
    (BIG, None, None),
    (-BIG, None, None),
    (BIG, -BIG, BIG),
    (-3, BIG, None),
    (7, None, -BIG),
    (0, BIG, BIG),
]
VALUES = range(-9, 10)


def plainly(deed, value):
    """What the deed makes of the value, by the words of promise 5."""
    add, low, high = deed
    result = value + add
    if low is not None:
        result = max(result, low)
    if high is not None:
        result = min(result, high)
    return result


def nested(depth, inmost, outer):
    """The inmost thing, so many times within an outer one."""
    thing = inmost
    for level in range(depth):
        thing = outer(thing)
    return thing


# No numbers, no tuples, no texts.
ODD_THINGS = [
    True,
    False,
    None,
    [],
    [0],
    [0, None, None],
    {},
    {0: 1},
    set(),
    frozenset((1,)),
    b"",
    b"look",
    range(3),
    object(),
    int,
    len,
    Ellipsis,
    nested(60, 0, lambda thing: [thing]),
    nested(60, 0, lambda thing: {"in": thing}),
]

ODD_TUPLES = [
    (),
    (0,),
    (None,),
    ((),),
    ("look",),
    nested(60, 0, lambda thing: (thing,)),
    nested(60, 0, lambda thing: (thing, thing)),
]

ODD_TEXTS = ["", "0", "look", "(0, None, None)"]

NO_NUMBERS = ODD_THINGS + ODD_TUPLES + ODD_TEXTS

NO_DEEDS = ODD_THINGS + ODD_TUPLES + ODD_TEXTS + [
    0,
    5,
    (0, None),
    (0, None, None, None),
    [0, 1, 2],
    (True, None, None),
    (False, None, None),
    (None, None, None),
    ("0", None, None),
    ((0,), None, None),
    ([0], None, None),
    (0, True, None),
    (0, False, None),
    (0, None, True),
    (0, None, False),
    (0, False, True),
    (0, "1", None),
    (0, None, "1"),
    (0, [1], None),
    (0, None, (1,)),
    (0, 2, 1),
    (1, 0, -1),
    (0, BIG + 1, BIG),
    (1, 2, 2),
    (-1, 0, 0),
    (BIG, BIG, BIG),
    ((0, None, None),),
    ((0, None, None), (0, None, None)),
]
