"""Settings of a net's switches: where they lead each hand, and those that lead each to its side."""

from joinedasks.errors import NoSettings, NoSide
from joinedasks.net import figure, is_line, need_net, shared_line, switch_at, way_of, with_figure
from joinedasks.whole import is_within


def switches_in_a_stage(k):
    """How many switches each stage of the net has."""
    return 1 << k >> 1


def are_marks(k, thing):
    """Whether the thing is a row of a 0 or a 1 for each switch of a stage."""
    if not isinstance(thing, tuple) or len(thing) != switches_in_a_stage(k):
        return False
    return all([is_within(mark, 0, 1) for mark in thing])


def is_settings(k, thing):
    """Whether the thing is settings of the net."""
    need_net(k)
    if not isinstance(thing, tuple) or len(thing) != k:
        return False
    return all([are_marks(k, marks) for marks in thing])


def need_settings(k, thing):
    """Refuses what is no depth of a net, then what is no settings, or no firsts, of it."""
    if not is_settings(k, thing):
        raise NoSettings("for each switch of each stage there is a 0 or a 1")


def straight(k):
    """The settings of the net with all switches straight."""
    need_net(k)
    return ((0,) * switches_in_a_stage(k),) * k


def out_line(k, stage, line, marks):
    """The out-line to which the in-line is led by the marks of its stage."""
    crossed = marks[switch_at(k, stage, line)]
    return with_figure(k, stage, line, figure(k, stage, line) ^ crossed)


def led(k, settings):
    """The sides to which the settings lead the hands."""
    need_settings(k, settings)
    lines = list(range(1 << k))
    for stage in range(1, k + 1):
        marks = settings[stage - 1]
        lines = [out_line(k, stage, line, marks) for line in lines]
    return tuple(lines)


def need_sides(k, thing):
    """Refuses what is no row of a side for each hand."""
    row = isinstance(thing, tuple) and len(thing) == 1 << k
    if not row or not all([is_line(k, side) for side in thing]):
        raise NoSide("there is a side for each hand")


def marks_by(k, stage, ways):
    """For each switch of the stage whether the ways, no two by one line, cross there."""
    marks = [0] * switches_in_a_stage(k)
    for lines in ways:
        crossed = figure(k, stage, lines[stage - 1]) ^ figure(k, stage, lines[stage])
        marks[switch_at(k, stage, lines[stage])] = crossed
    return tuple(marks)


def settings_for(k, sides):
    """("settings", those that lead each hand to its side), or ("clash", the first line that two ways share)."""
    need_net(k)
    need_sides(k, sides)
    clash = shared_line(k, tuple(enumerate(sides)))
    if clash is not None:
        return ("clash", clash)
    # There is one way only from a hand to a side, and it tells how each switch on it stands.
    ways = [way_of(k, hand, side) for hand, side in enumerate(sides)]
    return ("settings", tuple([marks_by(k, stage, ways) for stage in range(1, k + 1)]))
