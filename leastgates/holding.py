"""Which lots are held, by which of their places, in one world."""

from leastgates.checks import good_lot, good_world, need_apart, need_filled, need_inside, need_listed, need_side
from leastgates.costs import cost
from leastgates.errors import NotHeld
from leastgates.flows import flow_of
from leastgates.leasts import last_of
from leastgates.lots import lots_inside, minus, rest
from leastgates.nets import all_lot

MOST_IN_HOLDER_TABLE = 6


def holds(net, world, holders, lot):
    """True if no lot between the holders and the lot is cheaper than the lot."""
    capacities, places, whole = good_held(net, world, holders, lot)
    need_held(places, whole)
    return is_held(net, capacities, places, whole)


def breaking_lot(net, world, holders, lot):
    """The greatest one of the cheapest lots between, None if the holders hold the lot."""
    capacities, places, whole = good_held(net, world, holders, lot)
    need_held(places, whole)
    return breaking_of(net, capacities, places, whole)


def holders_of(net, world, lot):
    """The lot of the places that hold the lot."""
    capacities = good_world(net.many, world)
    whole = good_lot(net.size, lot)
    need_filled("lot", whole)
    return single_holders(net, capacities, whole)


def held_lots(net, world, holders):
    """The list of all lots that the holders hold, by size."""
    capacities = good_world(net.many, world)
    places = good_lot(net.size, holders)
    need_filled("holders", places)
    need_listed(net.size)
    return lots_held(net, capacities, places)


def greatest_held(net, world, holders, misses):
    """The greatest lot that the holders hold and that has no place of misses."""
    capacities, places, missed = good_held(net, world, holders, misses)
    need_filled("holders", places)
    need_apart(places, missed)
    return last_of(net, capacities, places, missed)


def holder_table(net, world):
    """The list of all pairs of a place and a lot that it holds."""
    capacities = good_world(net.many, world)
    need_listed(net.size, MOST_IN_HOLDER_TABLE)
    found = []
    for lot in lots_inside((), all_lot(net)):
        for place in single_holders(net, capacities, lot):
            found.append((place, lot))
    return found


def rectangle(net, world, side):
    """The holders of the side here, and the holders of the other places in the turned net."""
    capacities = good_world(net.many, world)
    lot = good_lot(net.size, side)
    need_side(net.size, lot)
    here = single_holders(net, capacities, lot)
    return here, single_holders(~net, capacities, rest(net.size, lot))


def good_held(net, world, holders, lot):
    """World, holders and lot by their forms."""
    return good_world(net.many, world), good_lot(net.size, holders), good_lot(net.size, lot)


def need_held(holders, lot):
    """The holders are places of the lot, and there is one."""
    need_filled("holders", holders)
    need_inside(holders, lot)


def is_held(net, world, holders, lot):
    """True if the holders hold the lot; nothing is checked."""
    # Nothing is outside of the lot of all places: the flow there is 0, as its cost.
    return flow_of(net, world, holders, rest(net.size, lot)) == cost(net, world, lot)


def breaking_of(net, world, holders, lot):
    """The breaking lot, None if the holders hold the lot; nothing is checked."""
    if is_held(net, world, holders, lot):
        return None
    return last_of(net, world, holders, rest(net.size, lot))


def need_holding(net, world, holders, lot):
    """The holders hold the lot."""
    cheaper = breaking_of(net, world, holders, lot)
    if cheaper is not None:
        raise NotHeld(cheaper)


def single_holders(net, world, lot):
    """The lot of the holders of a lot; nothing is checked."""
    return tuple([place for place in lot if is_held(net, world, (place,), lot)])


def lots_held(net, world, holders):
    """All lots that the holders hold, by size; nothing is checked."""
    found = []
    cheapest = {}
    for lot in lots_inside(holders, all_lot(net)):
        own = cost(net, world, lot)
        # The lots between with one place less know the cheapest lot below them already.
        below = [cheapest[minus(lot, (place,))] for place in minus(lot, holders)]
        cheapest[lot] = min([own] + below)
        if own == cheapest[lot]:
            found.append(lot)
    return found
