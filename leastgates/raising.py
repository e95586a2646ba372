"""What a greater or smaller capacity of one tie changes."""

from leastgates.checks import good_tie, good_world, is_integer, need_listed
from leastgates.costs import cost
from leastgates.errors import BadNumber
from leastgates.flows import flow_of, good_forms, need_ends
from leastgates.leasts import fit_lots, least_lots


def raised(net, world, tie, by):
    """The world in which the capacity of the tie is greater by this amount."""
    capacities = good_world(net.many, world)
    good_tie("tie", net.many, tie)
    if not is_integer(by) or capacities[tie] + by < 0:
        raise BadNumber("by")
    return with_capacity(capacities, tie, capacities[tie] + by)


def with_capacity(world, tie, capacity):
    """The world with this capacity of the tie; nothing is checked."""
    return world[:tie] + (capacity,) + world[tie + 1:]


def by_capacity(net, world, sources, sinks, tie):
    """The least costs of the fit sides with the tie as a gate, less its capacity, and without it."""
    capacities, starts, ends = good_forms(net, world, sources, sinks)
    good_tie("tie", net.many, tie)
    need_ends(starts, ends)
    need_listed(net.size)
    without_tie = with_capacity(capacities, tie, 0)
    gated = []
    free = []
    for lot in fit_lots(net.size, starts, ends):
        if tie in net.gates(lot):
            gated.append(cost(net, without_tie, lot))
        else:
            free.append(cost(net, without_tie, lot))
    return min(gated, default=None), min(free, default=None)


def sides_behind(net, world, sources, sinks, tie):
    """If the flow grows when the tie is raised by 1, and the least sides then."""
    capacities, starts, ends = good_forms(net, world, sources, sinks)
    good_tie("tie", net.many, tie)
    need_ends(starts, ends)
    need_listed(net.size)
    higher = with_capacity(capacities, tie, capacities[tie] + 1)
    grows = flow_of(net, higher, starts, ends) > flow_of(net, capacities, starts, ends)
    return grows, least_lots(net, higher, starts, ends)
