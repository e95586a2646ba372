"""What is held in all worlds of a family.

For a told family its world decides, and for stretches the one world X HIGH, by flows. For other
families the lot is compared with each lot between, so the net must not have too many places.
"""

from leastgates.checks import good_lot, good_two_lots, need_apart, need_family, need_filled, need_listed
from leastgates.families import Told
from leastgates.gaps import cost_gap, dearer_of
from leastgates.holding import is_held, need_held, single_holders
from leastgates.leasts import last_of
from leastgates.lots import common, lots_inside, minus, rest
from leastgates.nets import all_lot
from leastgates.stretches import Stretches


def always_holds(net, family, holders, lot):
    """True if the holders hold the lot in each world."""
    return broken_in(net, family, holders, lot) is None


def broken_in(net, family, holders, lot):
    """A world and a lot between that is cheaper in it, None if the holders always hold the lot."""
    places, whole = good_two_lots(net, family, holders, lot)
    need_held(places, whole)
    need_few(net, family)
    return broken_of(net, family, places, whole)


def always_holders(net, family, lot):
    """The lot of the places that hold the lot in each world."""
    need_family(net, family)
    whole = good_lot(net.size, lot)
    need_filled("lot", whole)
    need_few(net, family)
    return always_singles(net, family, whole)


def peels(net, family, holders, misses):
    """The lots that peeling finds, from all places but misses to the peeled lot."""
    places, missed = good_two_lots(net, family, holders, misses)
    need_filled("holders", places)
    need_apart(places, missed)
    need_few(net, family)
    found = [rest(net.size, missed)]
    broken = broken_of(net, family, places, found[-1])
    while broken is not None:
        world, _ = broken
        found.append(last_of(net, world, places, rest(net.size, found[-1])))
        broken = broken_of(net, family, places, found[-1])
    return found


def peeled(net, family, holders, misses):
    """The greatest lot that the holders always hold and that has no place of misses."""
    return peels(net, family, holders, misses)[-1]


def always_lots(net, family, holders):
    """The list of all lots that the holders always hold, by size."""
    need_family(net, family)
    places = good_lot(net.size, holders)
    need_filled("holders", places)
    need_listed(net.size)
    return [lot for lot in lots_inside(places, all_lot(net)) if broken_of(net, family, places, lot) is None]


def deciding_world(net, family, lot):
    """The one world that tells who always holds the lot, None if the family is of another kind."""
    if isinstance(family, Told):
        return family.world
    if isinstance(family, Stretches):
        return family.with_high(net.gates(lot))
    return None


def need_few(net, family):
    """Where no single world decides, the net must not have too many places."""
    if not isinstance(family, Told) and not isinstance(family, Stretches):
        need_listed(net.size)


def broken_of(net, family, holders, lot):
    """What broken_in answers; nothing is checked."""
    world = deciding_world(net, family, lot)
    if world is not None:
        if is_held(net, world, holders, lot):
            return None
        return world, last_of(net, world, holders, rest(net.size, lot))
    for inside in lots_inside(holders, lot):
        dearer = dearer_of(net, family, lot, inside)
        if dearer is not None:
            return dearer, inside
    return None


def always_singles(net, family, lot):
    """The lot of the always-holders of a lot; nothing is checked."""
    world = deciding_world(net, family, lot)
    if world is not None:
        return single_holders(net, world, lot)
    found = lot
    for inside in lots_inside((), lot):
        # A lot that is cheaper in some world shows at once for all its places that they do not hold.
        if common(inside, found) and cost_gap(net, family, lot, inside) > 0:
            found = minus(found, inside)
    return found
