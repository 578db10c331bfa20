"""What switches remember and what comes to the boxes in a round, and how many asks are on each line."""

from joinedasks.net import way_of
from joinedasks.rounds import need_round, pass_net, side_for
from joinedasks.settings import need_settings, straight


def remembered(k, board, asks, firsts):
    """What the switches remember in a round, as sorted tuples (stage, number, box, deed)."""
    need_round(k, board, asks)
    need_settings(k, firsts)
    stages = pass_net(k, asks, firsts)[1]
    told = []
    for stage, kept in enumerate(stages, start=1):
        told.extend([(stage, number, box, deed) for (number, box), deed in kept.items()])
    return tuple(sorted(told))


def came(k, board, asks, firsts):
    """What comes to the boxes in a round, as sorted tuples (box, deed)."""
    need_round(k, board, asks)
    need_settings(k, firsts)
    levels = pass_net(k, asks, firsts)[0]
    return tuple(sorted([(box, deed) for (line, box), deed in levels[k].items()]))


def counted_on(k, lines):
    """How many times each line of a level stands among these."""
    return tuple([lines.count(line) for line in range(1 << k)])


def joined_loads(k, board, asks):
    """For each level how many asks are on each line in a round."""
    need_round(k, board, asks)
    # Which in-line is the first one changes what is joined to what, not how many are left.
    levels = pass_net(k, asks, straight(k))[0]
    return tuple([counted_on(k, [line for line, box in asked]) for asked in levels])


def plain_loads(k, board, asks):
    """For each level how many asks would be on each line in a round, if none were joined."""
    need_round(k, board, asks)
    ways = [way_of(k, hand, side_for(k, box)) for hand, box, deed in asks]
    return tuple([counted_on(k, [lines[level] for lines in ways]) for level in range(k + 1)])
