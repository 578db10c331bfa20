"""Deeds by table that several tests hand in, and what is none."""

import random

from samples import BIG, NO_NUMBERS

TURN = (1, 2, 0)
SWAP = (1, 0, 2)
MERGE = (0, 0, 2)
EVEN = ((1, 2, 0, 3, 4), (1, 2, 3, 4, 0))
OF_SIXTY = [EVEN, ((2, 1, 0, 0), (2, 0, 1, 3), (1, 1, 0, 0), (2, 0, 0, 0)), ((3, 1, 2, 0), (3, 3, 1, 1), (2, 0, 2, 3))]
OF_MORE = [
    ((0, 2, 1, 0), (2, 2, 2, 1), (0, 3, 2, 0), (0, 2, 3, 1)),
    ((3, 0, 2, 3), (0, 0, 2, 2), (1, 3, 2, 0), (2, 3, 2, 1)),
    ((2, 2, 2, 1), (2, 3, 3, 1), (2, 0, 3, 0)),
    ((1, 0, 2, 3, 4), (1, 2, 3, 4, 0)),
    ((1, 0, 2, 3, 4), (1, 2, 3, 4, 0), (0, 0, 2, 3, 4)),
]
FEW = [
    ((0,),),
    ((0,), (0,), (0,), (0,)),
    ((0, 1),),
    ((1, 0),),
    ((0, 0),),
    ((1, 0), (0, 0)),
    ((0, 0), (1, 0)),
    ((1, 0), (1, 0), (0, 1), (1, 1)),
    (TURN,),
    (TURN, SWAP),
    (SWAP, TURN),
    (TURN, SWAP, MERGE),
    (MERGE, MERGE),
    ((0, 1, 2, 3, 4),),
    ((1, 2, 3, 4, 4),),
    ((1, 2, 3, 4, 0),),
    ((1, 1, 2, 3), (0, 2, 2, 3), (0, 1, 3, 3)),
]


def one_then(one, other):
    """What the other makes of what the one makes of each state."""
    return tuple(other[one[state]] for state in range(len(one)))


def some_given():
    """Rows of deeds by table whose families are of sixty at most, some that are of more among them."""
    chance = random.Random(23)
    found = list(FEW)
    for turn in range(120):
        states = chance.randint(1, 5)
        many = chance.randint(1, 4)
        found.append(tuple(tuple(chance.randrange(states) for state in range(states)) for deed in range(many)))
    return found


NO_DEEDS_BY_TABLE = [thing for thing in NO_NUMBERS if thing != (0,)] + [
    0, (), (0,) * 6, (1,), (-1,), (0, 2), (2, 0), (0, -1), (0, 1, 3), (0, 1, 2, 3, 5), (0, 1, 2, 3, 4, 5), [0], [0, 1],
    (False,), (0, True), (0, None), (0, "1"), (0, [1]), (0, (1,)), ((0, 1),), (BIG,), (0, BIG), "01", {0: 0},
]

# No row of one to four deeds by table, all over as many states.
NO_GIVEN = [thing for thing in NO_NUMBERS if thing != ()] + [
    (), 0, (0,), (0, 1), [(0, 1)], [], ((0, 1),) * 5, ((0, 1), (0,)), ((0,), (0, 1)), ((0, 1), (0, 1), (0, 1, 2)),
    (((0, 1),),), ((0, 1), [0, 1]), ([0, 1],),
] + [(thing,) for thing in NO_DEEDS_BY_TABLE] + [((0, 1), thing) for thing in NO_DEEDS_BY_TABLE]
