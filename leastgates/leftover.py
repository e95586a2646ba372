"""The steps that a flow row leaves, and lots that are closed under steps."""

from leastgates.checks import good_lot, good_row, good_size
from leastgates.errors import BadRow
from leastgates.flows import arcs_of, good_forms, is_flow, need_ends, rooms_of
from leastgates.lots import both


def steps_left(net, world, sources, sinks, row):
    """The pairs of places from the first of which the flow row lets more be led to the second."""
    capacities, starts, ends = good_forms(net, world, sources, sinks)
    entries = good_row(net.many, row)
    need_ends(starts, ends)
    if not is_flow(net, capacities, starts, ends, entries):
        raise BadRow(-1)
    return steps_of(net, capacities, entries)


def steps_of(net, world, row):
    """The steps that a flow row leaves; nothing is checked."""
    rooms = rooms_of(net, world, row)
    found = []
    for place, arcs in enumerate(arcs_of(net)):
        for index, other in arcs:
            if rooms[index] > 0:
                found.append((place, other))
    return tuple(sorted(set(found)))


def closed(steps, lot):
    """True if no step leads out of the lot."""
    return all([place not in lot or other in lot for place, other in steps])


def grow_closed(size, steps, lot):
    """The least closed lot that has all places of the lot."""
    return grown(steps, good_lot(good_size(size), lot))


def grown(steps, lot):
    """The least closed lot around an ascending lot; nothing is checked."""
    found = lot
    while not closed(steps, found):
        found = both(found, [other for place, other in steps if place in found])
    return found
