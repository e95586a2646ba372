"""Flows along the inner ties of a lot, and the holders that they make."""

from leastgates.checks import good_lot, good_place, good_world, need_inside, need_two
from leastgates.costs import cost
from leastgates.flows import flow_of
from leastgates.holding import need_holding


def inner_flow(net, world, lot, one, other):
    """What can be led from one place of the lot to another one along inner ties of the lot."""
    capacities, whole = good_inner(net, world, lot, ("one", one), ("other", other))
    return inner_of(net, capacities, whole, one, other)


def made_holder(net, world, lot, holder, place):
    """True if the inner flow from the place to a holder is enough to make it a holder, too."""
    capacities, whole = good_inner(net, world, lot, ("holder", holder), ("place", place))
    need_holding(net, capacities, (holder,), whole)
    return inner_of(net, capacities, whole, place, holder) >= cost(net, capacities, whole)


def good_inner(net, world, lot, named, other_named):
    """World and lot, behind two places with their names, both of the lot."""
    capacities = good_world(net.many, world)
    whole = good_lot(net.size, lot)
    name, place = named
    other_name, other_place = other_named
    good_place(name, net.size, place)
    good_place(other_name, net.size, other_place)
    need_inside((place,), whole)
    need_inside((other_place,), whole)
    need_two(place, other_place)
    return capacities, whole


def inner_of(net, world, lot, one, other):
    """The inner flow; nothing is checked."""
    inner = net.inner(lot)
    inner_world = [capacity if tie in inner else 0 for tie, capacity in enumerate(world)]
    return flow_of(net, inner_world, (one,), (other,))
