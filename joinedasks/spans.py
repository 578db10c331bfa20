"""Spans of values: those that stay by a deed, and those that lead to a value by it."""

from joinedasks.deeds import need_deed, need_value


def stays(deed):
    """(least, greatest) of the values of which the deed makes themselves, or None."""
    need_deed(deed)
    add, low, high = deed
    if add == 0:
        return (low, high)
    # A deed that adds moves every value, but for the end at which it is held up.
    end = high if add > 0 else low
    return None if end is None else (end, end)


def leads(deed, value):
    """(least, greatest) of the values of which the deed makes this one, or None."""
    need_value(value)
    need_deed(deed)
    add, low, high = deed
    if low is not None and value < low:
        return None
    if high is not None and value > high:
        return None
    # To an end lead all values that are beyond it, too.
    least = None if value == low else value - add
    greatest = None if value == high else value - add
    return (least, greatest)
