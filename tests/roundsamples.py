"""Rounds that several tests hand in, and what is no round."""

import random

from samples import BIG, BIG_DEEDS, DEEDS, NO_DEEDS, NO_NUMBERS, some_settings

ADD = (5, None, None)
EVERY_DEED = DEEDS + BIG_DEEDS


def to_one_box(k, box):
    """The asks of all hands to one box."""
    return tuple((hand, box, EVERY_DEED[(hand * 7 + box) % len(EVERY_DEED)]) for hand in range(2 ** k))


def by_chance(chance, k, many, boxes):
    """The asks of so many hands, in any order, to some of the boxes."""
    hands = chance.sample(range(2 ** k), many)
    return tuple((hand, chance.choice(boxes), chance.choice(EVERY_DEED)) for hand in hands)


def some_rounds(k):
    """Tuples (board, asks, firsts)."""
    chance = random.Random(15 + k)
    firsts = some_settings(k)
    boards = [(7,), (-3, 4), (1, 2, 3), tuple(range(-8, 8))]
    found = []
    for board in boards:
        boxes = list(range(len(board)))
        rows = [()] + [to_one_box(k, box) for box in boxes]
        # Boxes at one side, boxes at several sides.
        beside = [box for box in boxes if box % 2 ** k == 0]
        for turn in range(30):
            many = chance.randint(0, 2 ** k)
            rows.append(by_chance(chance, k, many, beside))
            rows.append(by_chance(chance, k, many, boxes))
            rows.append(by_chance(chance, k, 2 ** k, boxes))
        found += [(board, asks, chance.choice(firsts)) for asks in rows]
        found += [(board, to_one_box(k, 0), firsts[turn]) for turn in (0, 1, len(firsts) - 1) if turn < len(firsts)]
    return found


NO_ASKS_OF_TWO = [thing for thing in NO_NUMBERS if thing != ()] + [
    0, (0, 0, ADD), [(0, 0, ADD)], ([0, 0, ADD],), ((0, 0, ADD), None), (((0, 0, ADD),),), ((0, 0),), ((0, 0, ADD, 0),),
    ((-1, 0, ADD),), ((16, 0, ADD),), ((True, 0, ADD),), ((0, 2, ADD),), ((0, -1, ADD),), ((0, False, ADD),),
    ((BIG, 0, ADD),), ((0, "0", ADD),), ((None, 0, ADD),), ((0, None, ADD),),
] + [((0, 0, thing),) for thing in NO_DEEDS]


def no_hands(k):
    """Asks that are right of a board of two boxes, but of hands that the net has not, or twice of one."""
    wrong = [((0, 0, ADD), (0, 0, ADD)), ((0, 0, ADD), (0, 1, (0, None, None))), ((0, 0, ADD),) * 3]
    if k > 0:
        wrong.append(((1, 0, ADD), (0, 1, ADD), (1, 0, ADD)))
    for hand in range(2 ** k, 16):
        wrong += [((hand, 0, ADD),), ((0, 0, ADD), (hand, 1, ADD)), ((hand, 1, ADD), (0, 0, ADD))]
    return wrong
