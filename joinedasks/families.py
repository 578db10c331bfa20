"""Deeds by table, and the family of those that some of them make, one after another."""

from joinedasks.errors import NoTable, TooMany
from joinedasks.whole import is_within

MOST_STATES = 5
MOST_GIVEN = 4
MOST_IN_FAMILY = 60


def is_by_table(thing):
    """Whether the thing is a deed by table."""
    if not isinstance(thing, tuple) or not 1 <= len(thing) <= MOST_STATES:
        return False
    return all([is_within(state, 0, len(thing) - 1) for state in thing])


def need_by_table(thing, least, most):
    """Refuses what is no row of so many deeds by table, all over as many states."""
    if not isinstance(thing, tuple) or not least <= len(thing) <= most:
        raise NoTable("there are too few deeds by table, or too many, or they are no row")
    if not all([is_by_table(deed) for deed in thing]):
        raise NoTable("a deed by table is a row of one to five states")
    if not all([len(deed) == len(thing[0]) for deed in thing]):
        raise NoTable("the deeds by table are over as many states")


def by_table_then(one, other):
    """The one deed by table then the other one."""
    return tuple([other[state] for state in one])


def grown(deeds):
    """The family of the deeds, in order: the word of each, by the deed."""
    need_by_table(deeds, 1, MOST_GIVEN)
    leaving = tuple(range(len(deeds[0])))
    found = {leaving: ()}
    # A first word without its last number is a first word, too; so those of one length come from those of
    # the length before, and in their order.
    newest = [leaving]
    while newest:
        following = []
        for last in newest:
            for number, deed in enumerate(deeds):
                another = by_table_then(last, deed)
                if another not in found:
                    found[another] = found[last] + (number,)
                    following.append(another)
        if len(found) > MOST_IN_FAMILY:
            raise TooMany("a family has at most sixty deeds by table")
        newest = following
    return found


def family(deeds):
    """All deeds by table that the deeds make, one after another."""
    return tuple(grown(deeds))


def words(deeds):
    """For each of the family's deeds the first row of the deeds' numbers that makes it."""
    return tuple(grown(deeds).values())
