"""The net: the ways from hands to sides, and the switches on them."""

from joinedasks.errors import NoHand, NoNet, NoSide
from joinedasks.whole import is_within

DEEPEST = 4
MOST_PAIRS = 40


def need_net(thing):
    """Refuses what is no depth of a net."""
    if not is_within(thing, 0, DEEPEST):
        raise NoNet("a net is 0 to 4 deep")


def is_line(k, thing):
    """Whether the thing is the number of a line, and so of a hand and of a side, of the net."""
    return is_within(thing, 0, (1 << k) - 1)


def is_switch(k, stage, number):
    """Whether the net has a switch of this stage and number."""
    return is_within(stage, 1, k) and is_within(number, 0, (1 << (k - 1)) - 1)


def need_hand(k, thing):
    """Refuses what is no hand of the net."""
    if not is_line(k, thing):
        raise NoHand("the net has no such hand")


def need_side(k, thing):
    """Refuses what is no side of the net."""
    if not is_line(k, thing):
        raise NoSide("the net has no such side")


def figure(k, stage, line):
    """The stage-th figure of the line."""
    return line >> (k - stage) & 1


def with_figure(k, stage, line, wanted):
    """The line with this one as its stage-th figure, all others as they are."""
    return line ^ ((figure(k, stage, line) ^ wanted) << (k - stage))


def onward(k, stage, line, side):
    """The out-line that leads to the side, from this in-line of a switch of the stage."""
    return with_figure(k, stage, line, figure(k, stage, side))


def switch_at(k, stage, line):
    """The number of that switch of the stage that has the line: its figures without the stage-th one."""
    behind = k - stage
    return (line >> (behind + 1) << behind) | (line & ((1 << behind) - 1))


def in_line(k, stage, number, mark):
    """The in-line of the switch that has this one as its stage-th figure."""
    behind = k - stage
    return (number >> behind << (behind + 1)) | (mark << behind) | (number & ((1 << behind) - 1))


def way_of(k, hand, side):
    """The way from the hand to the side; all are known to be right."""
    lines = [hand]
    for stage in range(1, k + 1):
        lines.append(onward(k, stage, lines[-1], side))
    return tuple(lines)


def way(k, hand, side):
    """The lines from the hand to the side, one of each level."""
    need_net(k)
    need_hand(k, hand)
    need_side(k, side)
    return way_of(k, hand, side)


def switches(k, hand, side):
    """The switches from the hand to the side, one of each stage."""
    lines = way(k, hand, side)
    return tuple([(stage, switch_at(k, stage, lines[stage])) for stage in range(1, k + 1)])


def unlike_stages(k, one, other):
    """The stages by whose figures the two numbers are unlike."""
    return [stage for stage in range(1, k + 1) if figure(k, stage, one) != figure(k, stage, other)]


def meeting(k, one, other):
    """The stage from which on the two hands' ways to a side go by the same lines."""
    need_net(k)
    need_hand(k, one)
    need_hand(k, other)
    if one == other:
        raise NoHand("the ways of one hand do not meet")
    # A way drops its hand's figures, the first one first: lines are unlike until the last unlike one is gone.
    return max(unlike_stages(k, one, other))


def parting(k, one, other):
    """The stage at which one hand's ways to the two sides part."""
    need_net(k)
    need_side(k, one)
    need_side(k, other)
    if one == other:
        raise NoSide("the ways to one side do not part")
    return min(unlike_stages(k, one, other))


def need_pairs(k, thing):
    """Refuses what is no row of at most forty tuples (hand, side)."""
    row = isinstance(thing, tuple) and len(thing) <= MOST_PAIRS
    if not row or not all([isinstance(pair, tuple) and len(pair) == 2 for pair in thing]):
        raise NoHand("hands and sides are a row of at most forty tuples of two")
    for hand, side in thing:
        need_hand(k, hand)
    for hand, side in thing:
        need_side(k, side)


def shared_line(k, pairs):
    """The first line that two of the pairs' ways share, or None; all are known to be right."""
    ways = [way_of(k, hand, side) for hand, side in pairs]
    for level in range(k + 1):
        level_lines = sorted([lines[level] for lines in ways])
        for line, following in zip(level_lines, level_lines[1:]):
            if line == following:
                return (level, line)
    return None


def first_shared(k, pairs):
    """The first line that the ways of two of the tuples (hand, side) share, as (level, line), or None."""
    need_net(k)
    need_pairs(k, pairs)
    return shared_line(k, pairs)
