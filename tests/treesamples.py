"""Trees that several tests hand in, and what is none."""

from joinedasks.trees import chained, halved
from samples import BIG, ODD_TEXTS, ODD_THINGS, ODD_TUPLES


def all_trees(first, many):
    """Every tree over so many numbers, from the first on."""
    if many == 1:
        return [first]
    return [
        (left, right)
        for parting in range(1, many)
        for left in all_trees(first, parting)
        for right in all_trees(first + parting, many - parting)
    ]


def leaning_right(many):
    tree = many - 1
    for number in range(many - 2, -1, -1):
        tree = (number, tree)
    return tree


def mixed(first, many, turn):
    """A tree that is parted now here, now there."""
    if many == 1:
        return first
    left = 1 + (turn * 7 + many) % (many - 1)
    return (mixed(first, left, turn + 1), mixed(first + left, many - left, turn + 2))


def some_trees(many):
    return [halved(many), chained(many), leaning_right(many)] + [mixed(0, many, turn) for turn in range(6)]


# No trees over two.
NO_TREES = ODD_THINGS + ODD_TUPLES + ODD_TEXTS + [
    1, -1, 0, BIG, (1, 0), (0, 0), (1, 1), (1, 2), (0, 2), (-1, 0), (0, -1), (0, BIG), (0, 1, 2), ((0, 1), 2), (0, (1, 2)),
    (False, True), (0, True), (False, 1), [0, 1], (0, [1]), ([0], 1), ((0,), 1), (0, (1,)), ((0, 1),), (0, None),
    ("0", "1"), (0, "1"), (0, ()), ((), (0, 1)), ((0, 1), ()), ((0, 1), (0, 1)), "01", {0: 1}, {0, 1},
]
