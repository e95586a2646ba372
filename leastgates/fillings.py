"""Fillings of the gates of a lot from its holders."""

from leastgates.checks import good_row
from leastgates.flows import greatest_row, led_out, may_lead
from leastgates.holding import good_held, is_held, need_held
from leastgates.lots import rest


def filling(net, world, holders, lot):
    """A filling, None if the holders do not hold the lot."""
    capacities, places, whole = good_held(net, world, holders, lot)
    need_held(places, whole)
    if not is_held(net, capacities, places, whole):
        return None
    return filling_of(net, capacities, places, whole)


def is_filling(net, world, holders, lot, row):
    """True if the row is a filling."""
    return wrong_at(net, world, holders, lot, row) is None


def wrong_at(net, world, holders, lot, row):
    """The first tie, or else the first place, at which the row is no filling."""
    capacities, places, whole = good_held(net, world, holders, lot)
    entries = good_row(net.many, row)
    need_held(places, whole)
    return wrong_of(net, capacities, places, whole, entries)


def filling_of(net, world, holders, lot):
    """A filling of a lot that the holders hold: the entries of a greatest flow at the lot."""
    return kept_at(net, lot, greatest_row(net, world, holders, rest(net.size, lot)))


def wrong_of(net, world, holders, lot, row):
    """Where the row is no filling, None if it is one; nothing is checked."""
    gates = net.gates(lot)
    for tie in range(net.many):
        if not may_stand(net, world, lot, gates, row, tie):
            return "tie", tie
    led = led_out(net, row)
    for place in lot:
        if led[place] < 0 or led[place] > 0 and place not in holders:
            return "place", place
    return None


def kept_at(net, lot, row):
    """The row with its entries on the inner ties and the gates of the lot, 0 on other ties."""
    kept = net.inner(lot) + net.gates(lot)
    return tuple([entry if tie in kept else 0 for tie, entry in enumerate(row)])


def may_stand(net, world, lot, gates, row, tie):
    """True if the entry of the tie is one that a filling of the lot with these gates may have."""
    first, second = net.ties[tie]
    if tie in gates:
        return row[tie] == (world[tie] if first in lot else -world[tie])
    if first in lot and second in lot and first != second:
        return may_lead(net, world, row, tie)
    return row[tie] == 0
