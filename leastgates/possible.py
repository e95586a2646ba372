"""Sides that are least in some world of a family of stretches."""

from leastgates.checks import good_lot, need_family, need_listed, need_side
from leastgates.costs import cost
from leastgates.flows import flow_of
from leastgates.holding import single_holders
from leastgates.leasts import fit_lots, fits
from leastgates.lots import rest
from leastgates.serving import good_ask_of_side, good_pair_ask
from leastgates.stretches import side_low


def is_possible(net, stretches, holders, sinks, side):
    """True if the side is least for the holders and the sinks in some world."""
    places, ends, lot = good_ask_of_side(net, stretches, holders, sinks, side)
    need_listed(net.size)
    return fits(places, ends, lot) and is_possible_of(net, stretches, places, ends, lot)


def possible_for(net, stretches, side):
    """The holders of the side here and of the other places there, in the world X LOW."""
    need_family(net, stretches)
    lot = good_lot(net.size, side)
    need_side(net.size, lot)
    need_listed(net.size)
    world = side_low(net, stretches, lot)
    here = single_holders(net, world, lot)
    return here, single_holders(~net, world, rest(net.size, lot))


def possible_sides(net, stretches, holders, sinks):
    """The list of all possible sides, by size."""
    places, ends = good_pair_ask(net, stretches, holders, sinks)
    lots = fit_lots(net.size, places, ends)
    return [lot for lot in lots if is_possible_of(net, stretches, places, ends, lot)]


def is_possible_of(net, stretches, holders, sinks, lot):
    """True if the fit side is least in the world X LOW; nothing is checked."""
    world = side_low(net, stretches, lot)
    return cost(net, world, lot) == flow_of(net, world, holders, sinks)
