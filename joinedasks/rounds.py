"""A round of asks, all at once: joined on the way, answered, the answers shared out."""

from joinedasks.boards import need_asks
from joinedasks.deeds import joined, made
from joinedasks.errors import NoHand
from joinedasks.net import is_line, need_net, need_side, onward, switch_at, with_figure
from joinedasks.settings import need_settings


def side_for(k, box):
    """The side at which the box is."""
    return box & ((1 << k) - 1)


def need_round(k, board, asks):
    """Refuses what is no round of a net with the board."""
    need_net(k)
    need_asks(board, asks)
    hands = [hand for hand, box, deed in asks]
    if len(set(hands)) != len(hands) or not all([is_line(k, hand) for hand in hands]):
        raise NoHand("the asks of a round are of unlike hands, all of the net")


def in_order(k, stage, line, firsts):
    """The two in-lines of that switch of the stage that has the line, the first one first."""
    first = firsts[stage - 1][switch_at(k, stage, line)]
    return (with_figure(k, stage, line, first), with_figure(k, stage, line, 1 - first))


def pass_stage(k, stage, asked, firsts):
    """(behind, kept): what is behind a stage of what was ahead of it, and what its switches remember.

    Asks on the lines of a level are deeds by (line, box); what is remembered are deeds by (number, box).
    """
    behind = {}
    kept = {}
    for line, box in asked:
        in_lines = in_order(k, stage, line, firsts)
        deeds = [asked[(in_line, box)] for in_line in in_lines if (in_line, box) in asked]
        out = (onward(k, stage, line, side_for(k, box)), box)
        if len(deeds) == 2:
            kept[(switch_at(k, stage, line), box)] = deeds[0]
            behind[out] = joined(deeds[0], deeds[1])
        else:
            behind[out] = deeds[0]
    return (behind, kept)


def pass_net(k, asks, firsts):
    """(levels, stages): what is on the lines of each level, and what the switches of each stage remember."""
    levels = [{(hand, box): deed for hand, box, deed in asks}]
    stages = []
    for stage in range(1, k + 1):
        behind, kept = pass_stage(k, stage, levels[-1], firsts)
        levels.append(behind)
        stages.append(kept)
    return (levels, stages)


def share_stage(k, stage, asked, kept, firsts, answers):
    """The answers ahead of a stage, of those behind it, all by (line, box)."""
    shared = {}
    for line, box in asked:
        answer = answers[(onward(k, stage, line, side_for(k, box)), box)]
        place = (switch_at(k, stage, line), box)
        first, other = in_order(k, stage, line, firsts)
        if line == other and place in kept:
            answer = made(kept[place], answer)
        shared[(line, box)] = answer
    return shared


def one_round(k, board, asks, firsts):
    """(answers, board): what each ask is answered, all at once, and the board behind."""
    need_round(k, board, asks)
    need_settings(k, firsts)
    levels, stages = pass_net(k, asks, firsts)
    values = list(board)
    answers = {}
    for (line, box), deed in levels[k].items():
        answers[(line, box)] = board[box]
        values[box] = made(deed, board[box])
    for stage in range(k, 0, -1):
        answers = share_stage(k, stage, levels[stage - 1], stages[stage - 1], firsts, answers)
    return (tuple([answers[(hand, box)] for hand, box, deed in asks]), tuple(values))


def told_order(k, side, firsts):
    """All hands, those first that come to the side by the first in-line of the switch where they meet others."""
    need_net(k)
    need_side(k, side)
    need_settings(k, firsts)
    lines = [side]
    for stage in range(k, 0, -1):
        lines = [in_line for line in lines for in_line in in_order(k, stage, line, firsts)]
    return tuple(lines)
