"""Addresses spread over the sides of a net."""

from joinedasks.errors import NoNumber
from joinedasks.net import need_net, need_side
from joinedasks.whole import is_whole, is_within

MOST_ADDRESSES = 200


def need_from_nought(thing):
    """Refuses what is no whole number from 0 on."""
    if not is_whole(thing) or thing < 0:
        raise NoNumber("addresses, places and steps are whole numbers from 0 on")


def side_by(k, address):
    """The side of the address; both are known to be right."""
    # Of pieces without figures nothing would ever be left over.
    if k == 0:
        return 0
    side = 0
    rest = address
    while rest > 0:
        side = side ^ (rest & ((1 << k) - 1))
        rest = rest >> k
    return side


def place_of(k, address):
    """The place of the address."""
    need_net(k)
    need_from_nought(address)
    return address >> k


def side_of(k, address):
    """The side of the address."""
    need_net(k)
    need_from_nought(address)
    return side_by(k, address)


def address_at(k, side, place):
    """The address of the side and the place."""
    need_net(k)
    need_from_nought(place)
    need_side(k, side)
    return (place << k) | (side ^ side_by(k, place))


def lying(k, begin, step, many):
    """For each side how many of so many addresses, by a step, lie there."""
    need_net(k)
    need_from_nought(begin)
    need_from_nought(step)
    if not is_within(many, 0, MOST_ADDRESSES):
        raise NoNumber("there are 0 to 200 addresses")
    counts = [0] * (1 << k)
    for turn in range(many):
        counts[side_by(k, begin + turn * step)] += 1
    return tuple(counts)
