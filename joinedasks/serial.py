"""Serial orders of calls, in which each hand's stand as they begun, however late others ended."""

from joinedasks.errors import NoCalls, TooMany
from joinedasks.fitting import are_answered, as_mask, is_order, need_calls, order_by

MOST_FOR_SERIAL = 8


def need_own_times(board, thing):
    """Refuses what is no calls of the board, and calls of one hand that begun alike."""
    need_calls(board, thing)
    begins = [(call[0], call[3]) for call in thing]
    if len(set(begins)) != len(begins):
        raise NoCalls("the calls of one hand begun one after another here")


def keeps_hands(calls, order):
    """Whether the calls of each hand stand in the order as they begun."""
    latest = {}
    for number in order:
        hand, box, deed, begun, ended, answer = calls[number]
        if latest.get(hand, 0) > begun:
            return False
        latest[hand] = begun
    return True


def is_serial(board, calls, order):
    """Whether the order, of anything, is a serial one of the calls."""
    need_own_times(board, calls)
    if not is_order(order, list(range(len(calls)))):
        return False
    return keeps_hands(calls, order) and are_answered(board, calls, order)


def hand_masks(calls):
    """For each call's number the mask of those of its hand that begun ahead of it."""
    masks = {}
    for number, call in enumerate(calls):
        hand, begun = call[0], call[3]
        masks[number] = as_mask([at for at, other in enumerate(calls) if other[0] == hand and other[3] < begun])
    return masks


def a_serial(board, calls):
    """A serial order of the calls, or None where there is none."""
    need_own_times(board, calls)
    if len(calls) > MOST_FOR_SERIAL:
        raise TooMany("a serial order is found of at most eight calls")
    return order_by(board, calls, hand_masks(calls))


def not_together():
    """(board, calls): each box's calls alone have a serial order, but all have none."""
    # Each hand sets a box, and then looks at the other one, which it finds not yet set: so each hand's
    # look would stand ahead of the other one's setting, and both behind their own.
    put_one = (0, 1, 1)
    look = (0, None, None)
    calls = (
        (0, 0, put_one, 0, 1, 0),
        (0, 1, look, 2, 3, 0),
        (1, 1, put_one, 0, 1, 0),
        (1, 0, look, 2, 3, 0),
    )
    return ((0, 0), calls)
