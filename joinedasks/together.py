"""Orders that fit box by box, gone together into one that fits all."""

from joinedasks.errors import NoOrder
from joinedasks.fitting import by_boxes, fits_these, merged, need_calls


def need_orders(board, calls, thing):
    """Refuses what is no row of an order for each box that fits its calls alone."""
    if not isinstance(thing, tuple) or len(thing) != len(board):
        raise NoOrder("there is an order for each box")
    for numbers, order in zip(by_boxes(board, calls), thing):
        if not fits_these(board, calls, numbers, order):
            raise NoOrder("each order fits its box's calls alone")


def gone_together(board, calls, orders):
    """An order that fits all calls, in which each box's stand as in its order."""
    need_calls(board, calls)
    need_orders(board, calls, orders)
    return merged(calls, orders)
