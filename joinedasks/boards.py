"""Boards of boxes, and asks to them, one after another."""

from joinedasks.deeds import LOOK, is_deed, joined, made
from joinedasks.errors import NoAsk, NoBoard
from joinedasks.whole import is_whole, is_within

MOST_BOXES = 16
LAST_HAND = 15


def is_board(thing):
    """Whether the thing is a board."""
    if not isinstance(thing, tuple) or not 1 <= len(thing) <= MOST_BOXES:
        return False
    return all([is_whole(value) for value in thing])


def need_board(thing):
    """Refuses what is no board."""
    if not is_board(thing):
        raise NoBoard("a board is a row of one to sixteen whole numbers")


def is_ask(board, thing):
    """Whether the thing is an ask of the board, which is known to be one."""
    if not isinstance(thing, tuple) or len(thing) != 3:
        return False
    hand, box, deed = thing
    return is_within(hand, 0, LAST_HAND) and is_within(box, 0, len(board) - 1) and is_deed(deed)


def are_asks(board, thing):
    """Whether the thing is a row of asks of the board."""
    need_board(board)
    return isinstance(thing, tuple) and all([is_ask(board, ask) for ask in thing])


def need_asks(board, thing):
    """Refuses what is no board, then what is no row of asks of it."""
    if not are_asks(board, thing):
        raise NoAsk("asks are a row of tuples (hand, box, deed) of the board")


def played(board, asks):
    """(answers, board): what each ask is answered, one after another, and the board behind."""
    need_asks(board, asks)
    values = list(board)
    answers = []
    for hand, box, deed in asks:
        answers.append(values[box])
        values[box] = made(deed, values[box])
    return (tuple(answers), tuple(values))


def gathered(board, asks):
    """What the asks make of each box, and for each ask what those ahead of it at its box make."""
    together = [LOOK for value in board]
    ahead = []
    for hand, box, deed in asks:
        ahead.append(together[box])
        together[box] = joined(together[box], deed)
    return (tuple(together), tuple(ahead))


def all_of(board, asks):
    """For each box the deed of all asks to it, together."""
    need_asks(board, asks)
    return gathered(board, asks)[0]


def ahead_of(board, asks):
    """For each ask the deed of all those ahead of it at its box, together."""
    need_asks(board, asks)
    return gathered(board, asks)[1]
