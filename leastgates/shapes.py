"""Nets made of nets: shrunk, merged and glued ones."""

from leastgates.checks import good_lot, good_place, good_size, need_filled, need_two
from leastgates.lots import both, minus, rest
from leastgates.nets import net_of_kind


def shrunk(net, lot):
    """The net with one place, the last one, instead of the lot."""
    places = good_lot(net.size, lot)
    need_filled("lot", places)
    numbers = [number_behind(net.size, places, place) for place in range(net.size)]
    return net_of_kind(net.KIND, net.size - len(places) + 1, [(numbers[a], numbers[b]) for a, b in net.ties])


def number_behind(size, lot, place):
    """The number of a place behind shrinking the lot; nothing is checked."""
    if place in lot:
        return size - len(lot)
    return rest(size, lot).index(place)


def behind(size, lot, place):
    """The number that a place has behind shrinking the lot."""
    good_size(size)
    places = good_lot(size, lot)
    good_place("place", size, place)
    need_filled("lot", places)
    return number_behind(size, places, place)


def lifted(size, lot, side):
    """The lot of the net that a lot of the shrunk net stands for."""
    good_size(size)
    places = good_lot(size, lot)
    last = size - len(places)
    shrunk_lot = good_lot(last + 1, side)
    need_filled("lot", places)
    others = rest(size, places)
    found = tuple([others[place] for place in minus(shrunk_lot, (last,))])
    if last in shrunk_lot:
        return both(found, places)
    return found


def glued(net, other, *others):
    """All these nets, each one glued to those before it."""
    whole = net + other
    for more in others:
        whole = whole + more
    return whole


def merged(net, one, other):
    """The net in which two places are one."""
    good_place("one", net.size, one)
    good_place("other", net.size, other)
    need_two(one, other)
    return shrunk(net, (one, other))
