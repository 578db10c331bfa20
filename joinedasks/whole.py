"""Whole numbers: which things are such."""


def is_whole(thing):
    """Whether the thing is a whole number."""
    # To Python True and False are ints, too.
    return isinstance(thing, int) and not isinstance(thing, bool)
