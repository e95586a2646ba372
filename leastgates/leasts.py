"""Least sides of sources and sinks in one world."""

from leastgates.checks import good_lot, good_size, good_world, need_listed
from leastgates.costs import cost
from leastgates.flows import flow_of, good_ask, good_forms, greatest_row, need_ends
from leastgates.leftover import closed, grown, steps_of
from leastgates.lots import lots_inside, minus, rest


def least_sides(net, world, sources, sinks):
    """The list of all least sides, by size."""
    capacities, starts, ends = good_ask(net, world, sources, sinks)
    need_listed(net.size)
    return least_lots(net, capacities, starts, ends)


def first_side(net, world, sources, sinks):
    """The least side that lies in all others."""
    capacities, starts, ends = good_ask(net, world, sources, sinks)
    return grown(steps_at(net, capacities, starts, ends), starts)


def last_side(net, world, sources, sinks):
    """The least side in which all others lie."""
    capacities, starts, ends = good_ask(net, world, sources, sinks)
    return last_of(net, capacities, starts, ends)


def is_least(net, world, sources, sinks, side):
    """True if the lot is a least side."""
    capacities, starts, ends = good_forms(net, world, sources, sinks)
    lot = good_lot(net.size, side)
    need_ends(starts, ends)
    return is_least_of(net, capacities, starts, ends, lot)


def fit_sides(size, sources, sinks):
    """A generator of all fit sides, by size."""
    good_size(size)
    starts = good_lot(size, sources)
    ends = good_lot(size, sinks)
    need_ends(starts, ends)
    need_listed(size)
    for side in fit_lots(size, starts, ends):
        yield side


def share(net, one, other, sources, sinks):
    """The list of the sides that are least in both worlds, by size."""
    here = good_world(net.many, one)
    there, starts, ends = good_ask(net, other, sources, sinks)
    need_listed(net.size)
    others = least_lots(net, there, starts, ends)
    return [side for side in least_lots(net, here, starts, ends) if side in others]


def is_least_of(net, world, sources, sinks, lot):
    """True if the lot is a least side; nothing is checked."""
    return fits(sources, sinks, lot) and cost(net, world, lot) == flow_of(net, world, sources, sinks)


def fits(sources, sinks, lot):
    """True if the lot has all sources and no sink."""
    return minus(sources, lot) == () and minus(sinks, lot) == sinks


def fit_lots(size, sources, sinks):
    """The list of all fit sides, by size; nothing is checked."""
    return lots_inside(sources, rest(size, sinks))


def steps_at(net, world, sources, sinks):
    """The steps that a greatest flow row leaves; nothing is checked."""
    return steps_of(net, world, greatest_row(net, world, sources, sinks))


def last_lot(size, steps, sinks):
    """The last least side: all places from which no steps lead to a sink."""
    return rest(size, grown([(other, place) for place, other in steps], sinks))


def last_of(net, world, sources, sinks):
    """The last least side; nothing is checked."""
    return last_lot(net.size, steps_at(net, world, sources, sinks), sinks)


def least_lots(net, world, sources, sinks):
    """The list of all least sides, by size; nothing is checked."""
    steps = steps_at(net, world, sources, sinks)
    lots = lots_inside(grown(steps, sources), last_lot(net.size, steps, sinks))
    return [lot for lot in lots if closed(steps, lot)]
