"""One filling for all worlds of stretches, and what it becomes in each of them."""

from leastgates.checks import good_row, good_two_lots, good_world
from leastgates.errors import NotAFilling
from leastgates.fillings import filling_of, wrong_of
from leastgates.flows import greatest_row
from leastgates.holding import is_held, need_held
from leastgates.lots import rest
from leastgates.nets import Oneway
from leastgates.stretches import need_agreeing, side_high


def one_filling(net, stretches, holders, lot):
    """A filling for all worlds, None if the holders do not always hold the lot."""
    places, whole = good_two_lots(net, stretches, holders, lot)
    need_held(places, whole)
    world = side_high(net, stretches, whole)
    if not is_held(net, world, places, whole):
        return None
    return filling_of(net, world, places, whole)


def is_one_filling(net, stretches, holders, lot, row):
    """True if the row is a filling for all worlds."""
    places, whole = good_two_lots(net, stretches, holders, lot)
    entries = good_row(net.many, row)
    need_held(places, whole)
    return is_one_of(net, stretches, places, whole, entries)


def thinned(net, stretches, holders, lot, row, world):
    """A filling in the world, each entry of which lies between 0 and that of the row."""
    places, whole = good_two_lots(net, stretches, holders, lot)
    entries = good_row(net.many, row)
    capacities = good_world(net.many, world)
    need_held(places, whole)
    if not is_one_of(net, stretches, places, whole, entries):
        raise NotAFilling(-1)
    need_agreeing(stretches, capacities)
    return thinned_of(net, places, whole, entries, capacities)


def is_one_of(net, stretches, holders, lot, row):
    """True if the row is a filling for all worlds; nothing is checked."""
    return wrong_of(net, side_high(net, stretches, lot), holders, lot, row) is None


def thinned_of(net, holders, lot, row, world):
    """A thinned filling: a greatest flow along the row, as far as the world lets it; nothing is checked."""
    # The entries of the row split into ways from holders to gates. A gate that carries less in the
    # world lets its ways be thinned, so the flow along the row fills all gates.
    ties = [pair if entry >= 0 else (pair[1], pair[0]) for pair, entry in zip(net.ties, row)]
    rooms = [min(abs(entry), capacity) for entry, capacity in zip(row, world)]
    led = greatest_row(Oneway(net.size, ties), rooms, holders, rest(net.size, lot))
    return tuple([amount if entry >= 0 else -amount for amount, entry in zip(led, row)])
