"""The counting net: its toggles, and the row of lines on which tokens come out."""

from joinedasks.errors import NoNet
from joinedasks.whole import is_within

DEEPEST_COUNTING = 3


def merge_lines(one, other, found):
    """The merged row of two rows of lines; appends its toggles to those that were found."""
    if len(one) == 1:
        found.append((one[0], other[0]))
        return one + other
    first = merge_lines(one[::2], other[1::2], found)
    second = merge_lines(one[1::2], other[::2], found)
    row = []
    for pair in zip(first, second):
        found.append(pair)
        row.extend(pair)
    return row


def count_lines(lines, found):
    """The counted row of the lines; appends its toggles to those that were found."""
    if len(lines) == 1:
        return lines
    half = len(lines) // 2
    first = count_lines(lines[:half], found)
    second = count_lines(lines[half:], found)
    return merge_lines(first, second, found)


def counting_net(k):
    """(toggles, counted row) of the counting net."""
    if not is_within(k, 0, DEEPEST_COUNTING):
        raise NoNet("a counting net is 0 to 3 deep")
    found = []
    row = count_lines(list(range(1 << k)), found)
    return (tuple(found), tuple(row))


def toggles(k):
    """The toggles of the counting net, in the order in which they come."""
    return counting_net(k)[0]


def counted(k):
    """The counted row of the counting net."""
    return counting_net(k)[1]
