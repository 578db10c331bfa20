"""Deeds: what they make of a value, and what several make together."""

from joinedasks.errors import NoDeed, NoNumber
from joinedasks.whole import is_whole

LOOK = (0, None, None)


def is_end(thing):
    """Whether the thing may be the low or the high of a deed."""
    return thing is None or is_whole(thing)


def is_deed(thing):
    """Whether the thing is a deed."""
    if not isinstance(thing, tuple) or len(thing) != 3:
        return False
    add, low, high = thing
    if not (is_whole(add) and is_end(low) and is_end(high)):
        return False
    if low is None or high is None:
        return True
    return low < high or (low == high and add == 0)


def need_value(thing):
    """Refuses what is no value."""
    if not is_whole(thing):
        raise NoNumber("a value is a whole number")


def need_deed(thing):
    """Refuses what is no deed."""
    if not is_deed(thing):
        raise NoDeed("a deed is a tuple (add, low, high)")


def made(deed, value):
    """What the deed makes of the value; both are known to be right."""
    add, low, high = deed
    result = value + add
    if low is not None and low > result:
        result = low
    if high is not None and high < result:
        result = high
    return result


def done(deed, value):
    """What the deed makes of the value."""
    need_value(value)
    need_deed(deed)
    return made(deed, value)


def tidy(add, low, high):
    """The deed with these parts, low no more than high."""
    # Between ends that are alike nothing is left of what is added; one form is kept for all such.
    if low is not None and low == high:
        return (0, low, high)
    return (add, low, high)


def joined(one, other):
    """The one then the other; both are known to be deeds."""
    # Nothing below what the other makes of the one's low is ever made; likewise of its high.
    low = other[1] if one[1] is None else made(other, one[1])
    high = other[2] if one[2] is None else made(other, one[2])
    return tidy(one[0] + other[0], low, high)


def then(one, other):
    """The one deed that makes what the other makes of what the one makes."""
    need_deed(one)
    need_deed(other)
    return joined(one, other)


def turns(one, other):
    """Values of which some are apart, if the two deeds are unlike."""
    # From each value at which an end is met to the next one both deeds are straight, and so are they
    # beyond the outermost ones: alike at all of these, and one step beyond, they are alike everywhere.
    met = [end - deed[0] for deed in (one, other) for end in deed[1:] if end is not None]
    if not met:
        return [0]
    return met + [min(met) - 1, max(met) + 1]


def apart(one, other):
    """A value of which the two deeds make unlike ones, or None where they are one."""
    need_deed(one)
    need_deed(other)
    if one == other:
        return None
    unlike = [value for value in turns(one, other) if made(one, value) != made(other, value)]
    return unlike[0]


def again(deed, many):
    """The one deed that makes what the deed makes, done so many times."""
    if not is_whole(many) or many < 0:
        raise NoNumber("a number of times is a whole number from 0 on")
    need_deed(deed)
    if many == 0:
        return LOOK
    add, low, high = deed
    # What is at an end after the first time is moved by all the other ones, and held between the ends.
    ends = (0, low, high)
    moved = add * (many - 1)
    least = None if low is None else made(ends, low + moved)
    greatest = None if high is None else made(ends, high + moved)
    return tidy(add * many, least, greatest)
