"""Calls that several tests hand in, what is none, and orders by the words of promises 26 to 28."""

import random

from samples import BIG, BIG_DEEDS, DEEDS, NO_DEEDS, NO_NUMBERS, ODD_TEXTS, ODD_THINGS, nested, plainly

LOOK = (0, None, None)
ADD = (5, None, None)
CALL = (0, 0, ADD, 1, 2, 0)
EVERY_DEED = DEEDS + BIG_DEEDS

NO_BOARDS = ODD_THINGS + ODD_TEXTS + [
    0, 7, (), (0,) * 17, [1], [1, 2], (1, [2]), ([1],), ((1,),), (True,), (False,), (0, True), (None,), (0, None),
    ("0",), nested(60, 0, lambda thing: (thing,)),
]


def with_part(call, place, part):
    return call[:place] + (part,) + call[place + 1:]


# No calls of a board of two boxes.
NO_CALLS_ALONE = NO_NUMBERS + [
    0, ADD, (0, 0, ADD), CALL[:5], CALL[1:], CALL + (0,), CALL + (None,), list(CALL), (CALL,), (0, 0, [5, None, None], 1, 2, 0),
    (0, 0, ADD, (1, 2), 0), ((0, 0, ADD), 1, 2, 0), ((0, 0, ADD), 1, 2, 0, 0, 0),
    (0, 0, ADD, 3, 2, 0), (0, 0, ADD, 1, 0, 0), (0, 0, ADD, -1, 2, 0), (0, 0, ADD, -2, -1, 0), (0, 0, ADD, 0, -1, 0),
    (0, 0, ADD, BIG, BIG - 1, 0), (-1, 0, ADD, 1, 2, 0), (16, 0, ADD, 1, 2, 0), (0, -1, ADD, 1, 2, 0), (0, 2, ADD, 1, 2, 0),
    (0, 16, ADD, 1, 2, 0), (BIG, 0, ADD, 1, 2, 0), (0, BIG, ADD, 1, 2, 0),
]
NO_CALLS_ALONE += [with_part(CALL, place, thing) for place in (0, 1, 3, 4, 5) for thing in NO_NUMBERS]
NO_CALLS_ALONE += [with_part(CALL, 2, thing) for thing in NO_DEEDS]

NO_CALLS = (
    [thing for thing in NO_NUMBERS if thing != ()]
    + [0, CALL, [CALL], [], {CALL}, {CALL: CALL}, (list(CALL),), ((CALL,),), (CALL,) * 9, (CALL,) * 41]
    + [(CALL,) * 8 + (with_part(CALL, 0, 3),), (with_part(CALL, 1, 1),) * 9 + (CALL,)]
    + [(thing,) for thing in NO_CALLS_ALONE]
    + [(CALL, thing) for thing in NO_CALLS_ALONE]
    + [(thing, CALL) for thing in NO_CALLS_ALONE]
)


def no_orders(many):
    """What is no order of so many calls."""
    right = tuple(range(many))
    wrong = [thing for thing in NO_NUMBERS if many > 1 or thing not in ((), (0,))] + [0, 1, many, list(right), right + (many,)]
    wrong += [right + (0,), (right,), tuple(number + 1 for number in right) + (0,), tuple(str(number) for number in right) + ("",)]
    if many == 0:
        return wrong
    wrong += [right[1:], right[:-1], right[:-1] + (many,), (-1,) + right[1:], right[:-1] + (BIG,), right * 2]
    for place in range(many):
        for part in NO_NUMBERS + [-1, many]:
            wrong.append(right[:place] + (part,) + right[place + 1:])
    if many > 1:
        wrong += [(right[1],) + right[1:], right[:-1] + (0,), dict.fromkeys(right), set(right), "".join(map(str, right))]
        wrong += [(False, True) + right[2:], (0, True) + right[2:], (False, 1) + right[2:]]
    return wrong


def answered_in(board, calls, order):
    """Whether, played in this order, each call is answered by its answer."""
    values = dict(enumerate(board))
    for number in order:
        hand, box, deed, begun, ended, answer = calls[number]
        if values[box] != answer:
            return False
        values[box] = plainly(deed, values[box])
    return True


def plain_fits(board, calls, order):
    """Whether the order, which is one of some of the calls, fits them, pair by pair."""
    for place, number in enumerate(order):
        for other in order[:place]:
            if calls[number][4] < calls[other][3]:
                return False
    return answered_in(board, calls, order)


def plain_serial(board, calls, order):
    """Whether the order is a serial one, pair by pair."""
    for place, number in enumerate(order):
        for other in order[:place]:
            if calls[number][0] == calls[other][0] and calls[number][3] < calls[other][3]:
                return False
    return answered_in(board, calls, order)


def numbers_at(calls, box):
    return [number for number, call in enumerate(calls) if call[1] == box]


def calls_by_chance(chance, boxes, many, wide, wrong=0, deeds=EVERY_DEED):
    """(board, calls, order): calls about moments at which they were done, as wide as told, and the order of these.

    So many answers are then made wrong, by chance.
    """
    board = tuple(chance.randint(-3, 3) for box in range(boxes))
    free = [box for box in range(boxes) for turn in range(8)]
    chance.shuffle(free)
    values = list(board)
    done = []
    for moment, box in enumerate(free[:many]):
        deed = chance.choice(deeds)
        begun, ended = 10 * moment - chance.randint(0, wide), 10 * moment + chance.randint(0, wide)
        done.append((chance.randrange(16), box, deed, max(0, begun), ended, values[box]))
        values[box] = plainly(deed, values[box])
    for turn in range(wrong):
        at = chance.randrange(len(done))
        done[at] = done[at][:5] + (done[at][5] + chance.choice((-1, 1, 2)),)
    places = list(range(len(done)))
    chance.shuffle(places)
    calls = tuple(done[place] for place in places)
    return board, calls, tuple(places.index(moment) for moment in range(len(done)))


def own_times(calls):
    """The calls with no two of one hand that begun alike: those that would come later begin by as much later."""
    seen = set()
    found = []
    for hand, box, deed, begun, ended, answer in calls:
        while (hand, begun) in seen:
            begun += 1
        seen.add((hand, begun))
        found.append((hand, box, deed, begun, max(begun, ended), answer))
    return tuple(found)


def full_row(boxes, at_a_box, begun, ended):
    """(board, calls): so many calls at each box, all at once, each adding 1, in an order from the last one to the first."""
    calls = []
    for box in range(boxes):
        for turn in range(at_a_box):
            calls.append((turn, box, (1, None, None), begun, ended, at_a_box - 1 - turn))
    return (0,) * boxes, tuple(calls)


def chance_for(number):
    return random.Random(number)
