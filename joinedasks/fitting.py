"""Calls of a board, and orders of them that fit what was answered."""

from joinedasks.boards import is_ask, need_board
from joinedasks.deeds import made
from joinedasks.errors import NoCalls
from joinedasks.whole import is_whole

MOST_CALLS = 40
MOST_AT_A_BOX = 8


def is_call(board, thing):
    """Whether the thing is a call of the board, which is known to be one."""
    if not isinstance(thing, tuple) or len(thing) != 6 or not is_ask(board, thing[:3]):
        return False
    begun, ended, answer = thing[3:]
    return is_whole(begun) and is_whole(ended) and is_whole(answer) and 0 <= begun <= ended


def by_boxes(board, calls):
    """For each box the numbers of its calls."""
    numbers = [[] for value in board]
    for number, call in enumerate(calls):
        numbers[call[1]].append(number)
    return numbers


def are_calls(board, thing):
    """Whether the thing is calls of the board."""
    need_board(board)
    if not isinstance(thing, tuple) or len(thing) > MOST_CALLS:
        return False
    if not all([is_call(board, call) for call in thing]):
        return False
    return all([len(numbers) <= MOST_AT_A_BOX for numbers in by_boxes(board, thing)])


def need_calls(board, thing):
    """Refuses what is no board, then what is no calls of it."""
    if not are_calls(board, thing):
        raise NoCalls("calls are a row of at most forty calls of the board, at most eight at one box")


def is_order(thing, numbers):
    """Whether the thing is a row of just these numbers, each once; they are a sorted list."""
    if not isinstance(thing, tuple) or not all([is_whole(number) for number in thing]):
        return False
    return sorted(thing) == numbers


def are_answered(board, calls, order):
    """Whether each call that stands in the order is answered by its answer, played in it."""
    values = list(board)
    for number in order:
        hand, box, deed, begun, ended, answer = calls[number]
        if values[box] != answer:
            return False
        values[box] = made(deed, answer)
    return True


def keeps_ahead(calls, order):
    """Whether none stands in the order behind one that it is ahead of."""
    latest = 0
    for number in order:
        hand, box, deed, begun, ended, answer = calls[number]
        if ended < latest:
            return False
        latest = max(latest, begun)
    return True


def fits_these(board, calls, numbers, order):
    """Whether the order, of anything, is one of the calls of these numbers alone, and fits them."""
    return is_order(order, numbers) and keeps_ahead(calls, order) and are_answered(board, calls, order)


def fits(board, calls, order):
    """Whether the order, of anything, fits the calls."""
    need_calls(board, calls)
    return fits_these(board, calls, list(range(len(calls))), order)


def as_mask(numbers):
    """The numbers as one whole number, a binary figure for each."""
    return sum([1 << number for number in numbers])


def ahead_masks(calls, numbers):
    """For each of these numbers the mask of those, of these, whose calls are ahead of its own."""
    masks = {}
    for number in numbers:
        begun = calls[number][3]
        masks[number] = as_mask([other for other in numbers if calls[other][4] < begun])
    return masks


def one_more(calls, masks, reached):
    """What is reached when one more call follows."""
    following = {}
    for (taken, values), order in reached.items():
        for number, mask in masks.items():
            hand, box, deed, begun, ended, answer = calls[number]
            may_follow = taken >> number & 1 == 0 and mask & taken == mask
            if may_follow and values[box] == answer:
                left = values[:box] + (made(deed, answer),) + values[box + 1:]
                following[(taken | 1 << number, left)] = order + (number,)
    return following


def order_by(board, calls, masks):
    """An order of the calls that have masks, each behind those in its mask and answered by its answer, or None."""
    # What may follow depends on which calls were taken and on what they left, not on how they stood: so
    # of all orders that took the same and left the same, one is enough.
    reached = {(0, board): ()}
    for number in masks:
        reached = one_more(calls, masks, reached)
    orders = list(reached.values())
    return orders[0] if orders else None


def merged(calls, orders):
    """An order that fits all calls, of one of each box's that fits, in which each box's stand as they did."""
    # Of those that are left let this one be the first to end. It is not ahead of the first one left at its
    # box, as that box's order fits; and so none that is left is, as all of them end later.
    left = [list(order) for order in orders]
    together = []
    for ended, number in sorted([(call[4], number) for number, call in enumerate(calls)]):
        own = left[calls[number][1]]
        while number in own:
            together.append(own.pop(0))
    return tuple(together)


def an_order(board, calls):
    """An order that fits the calls, or None where none does."""
    need_calls(board, calls)
    orders = [order_by(board, calls, ahead_masks(calls, numbers)) for numbers in by_boxes(board, calls)]
    return None if None in orders else merged(calls, orders)
