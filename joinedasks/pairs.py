"""Tables of pairs, and asks by table folded and shared out by them."""

from joinedasks.errors import NoNumber, NoTable
from joinedasks.families import MOST_IN_FAMILY, by_table_then, family, need_by_table
from joinedasks.trees import MOST_DEEDS, need_tree
from joinedasks.whole import is_whole, is_within


def are_numbers(thing, many):
    """Whether the thing is a row of numbers below this one."""
    return isinstance(thing, tuple) and all([is_within(number, 0, many - 1) for number in thing])


def need_table(thing):
    """Refuses what is no table of pairs."""
    if not isinstance(thing, tuple) or not 1 <= len(thing) <= MOST_IN_FAMILY:
        raise NoTable("a table of pairs has one to sixty rows")
    many = len(thing)
    if not all([are_numbers(row, many) and len(row) == many for row in thing]):
        raise NoTable("each row of a table of pairs has as many numbers as there are rows, all of rows")


def need_table_of(deeds, table):
    """Refuses what is no table of pairs, and what is no row of as many deeds by table."""
    need_table(table)
    need_by_table(deeds, len(table), len(table))


def need_numbers(table, thing):
    """Refuses what is no row of one to forty numbers of the table's rows."""
    if not are_numbers(thing, len(table)) or not 1 <= len(thing) <= MOST_DEEDS:
        raise NoNumber("asks by table are a row of one to forty numbers of the table's rows")


def own_table(deeds):
    """The table of pairs of the family of these deeds."""
    members = family(deeds)
    numbers = {member: number for number, member in enumerate(members)}
    return tuple([tuple([numbers[by_table_then(one, other)] for other in members]) for one in members])


def held(deeds, table):
    """The first pair (i, j) at which the table does not hold for the deeds, or None."""
    need_table_of(deeds, table)
    for i, row in enumerate(table):
        for j, number in enumerate(row):
            if deeds[number] != by_table_then(deeds[i], deeds[j]):
                return (i, j)
    return None


def broken(table):
    """The first (i, j, l) at which a grouping breaks the table, or None."""
    need_table(table)
    many = len(table)
    for i in range(many):
        for j in range(many):
            for l in range(many):
                if table[table[i][j]][l] != table[i][table[j][l]]:
                    return (i, j, l)
    return None


def number_of(table, numbers, tree):
    """The number of the asks folded by the tree; all are known to be right."""
    if is_whole(tree):
        return numbers[tree]
    return table[number_of(table, numbers, tree[0])][number_of(table, numbers, tree[1])]


def folded_by(table, numbers, tree):
    """The one number that the asks by table make, folded by the tree."""
    need_table(table)
    need_numbers(table, numbers)
    need_tree(tree, len(numbers))
    return number_of(table, numbers, tree)


def share_by(deeds, table, numbers, tree, state, states):
    """Appends to the states what comes to the tree's asks of the state, and tells their number."""
    if is_whole(tree):
        states.append(state)
        return numbers[tree]
    left = share_by(deeds, table, numbers, tree[0], state, states)
    right = share_by(deeds, table, numbers, tree[1], deeds[left][state], states)
    return table[left][right]


def shared_by(deeds, table, numbers, tree, state):
    """The states that come to the asks by table, where this one is shared out by the tree."""
    need_table_of(deeds, table)
    need_numbers(table, numbers)
    if not is_within(state, 0, len(deeds[0]) - 1):
        raise NoNumber("the deeds by table have no such state")
    need_tree(tree, len(numbers))
    states = []
    share_by(deeds, table, numbers, tree, state, states)
    return tuple(states)
