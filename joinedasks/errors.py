"""The refusals. Of several that are due, the one whose class stands first here is met."""


class AskError(ValueError):
    """Any refusal."""


class NoNet(AskError):
    """No depth of a net."""


class NoTable(AskError):
    """No deeds by table, or no table of pairs."""


class NoNumber(AskError):
    """No whole number, or none that is allowed there."""


class NoDeed(AskError):
    """No deed, or no row of deeds."""


class NoBoard(AskError):
    """No board."""


class NoAsk(AskError):
    """No ask of the board, or no row of such."""


class NoTree(AskError):
    """No tree over so many."""


class NoHand(AskError):
    """No hand of the net."""


class NoSide(AskError):
    """No side, line or switch of the net."""


class NoSettings(AskError):
    """No settings, or no firsts, of the net."""


class NoCalls(AskError):
    """No calls of the board."""


class TooMany(AskError):
    """More than may be."""


class NoOrder(AskError):
    """No order, or none that fits."""


class NoToken(AskError):
    """No token that is inside."""


class NoText(AskError):
    """No text of a deed."""


class NoRow(AskError):
    """No row of words that a desk knows."""
