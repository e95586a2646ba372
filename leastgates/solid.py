"""Solid lots of two-way nets: those that may be shrunk to one place whatever lies around them."""

from leastgates.checks import good_lot, good_two_lots, good_world, need_family, need_filled, need_inside, need_listed
from leastgates.checks import need_side
from leastgates.costs import amount, cost
from leastgates.errors import NotASide
from leastgates.lots import both, common, lots_inside, minus, rest
from leastgates.nets import Twoway, check_twoway
from leastgates.stretches import Stretches


def weak_split(net, world, lot):
    """The first weak split of the lot, by size, None if the lot is solid."""
    check_twoway(net)
    capacities = good_world(net.many, world)
    whole = good_lot(net.size, lot)
    need_filled("lot", whole)
    need_listed(net.size)
    return first_weak(splits_of(net, whole), capacities)


def is_solid(net, world, lot):
    """True if the lot is solid in the world."""
    return weak_split(net, world, lot) is None


def always_solid(net, family, lot):
    """True if the lot is solid in each world."""
    whole = good_solid_ask(net, family, lot)
    splits = splits_of(net, whole)
    if isinstance(family, Stretches):
        return first_weak(splits, family.with_low(net.inner(whole))) is None
    return all([first_weak(splits, world) is None for world in family.worlds()])


def loose_world(net, stretches, lot):
    """The world with the inner ties of the lot at their lows and all other ties at their highs."""
    whole = good_solid_ask(net, stretches, lot)
    return stretches.with_low(net.inner(whole))


def moved_off(net, world, lot, side):
    """The side, with the whole lot or without it, whichever is cheaper, if it splits the lot."""
    check_twoway(net)
    capacities = good_world(net.many, world)
    whole = good_lot(net.size, lot)
    found = good_lot(net.size, side)
    need_filled("lot", whole)
    outside = rest(net.size, whole)
    if len(common(found, outside)) in (0, len(outside)):
        raise NotASide()
    need_listed(net.size)
    if common(whole, found) in ((), whole):
        return found
    with_lot = both(found, whole)
    without_lot = minus(found, whole)
    if cost(net, capacities, with_lot) <= cost(net, capacities, without_lot):
        return with_lot
    return without_lot


def shown_outside(net, world, lot, split):
    """A net around the lot, with one place outside for the gates of the split and one for the other gates."""
    check_twoway(net)
    capacities = good_world(net.many, world)
    whole = good_lot(net.size, lot)
    part = good_lot(net.size, split)
    need_filled("lot", whole)
    need_filled("split", part)
    need_inside(part, whole)
    need_side(len(whole), part)
    need_listed(net.size)
    kept = both(net.inner(whole), net.gates(whole))
    ties = [shown_ends(whole, part, net.ties[tie]) for tie in kept]
    return Twoway(len(whole) + 2, ties), tuple([capacities[tie] for tie in kept])


def good_solid_ask(net, family, lot):
    """The lot, behind a family, in a two-way net that is not too great."""
    check_twoway(net)
    need_family(net, family)
    whole = good_lot(net.size, lot)
    need_filled("lot", whole)
    need_listed(net.size)
    return whole


def splits_of(net, lot):
    """For each split, by size: the split, and the ties of its three amounts, as [78] names them."""
    outside = rest(net.size, lot)
    found = []
    for part in lots_inside((), lot)[1:-1]:
        other = minus(lot, part)
        found.append((part, net.between(part, other), net.between(part, outside), net.between(other, outside)))
    return found


def first_weak(splits, world):
    """The first split that is weak in the world, None if there is none."""
    for part, across, here, there in splits:
        joined = amount(world, across)
        if joined < amount(world, here) and joined < amount(world, there):
            return part
    return None


def shown_ends(lot, part, pair):
    """The ends of an inner tie or a gate of the lot in the net around it."""
    first, second = pair
    # The place outside is told by the end of the gate that is in the lot.
    return shown_place(lot, part, first, second), shown_place(lot, part, second, first)


def shown_place(lot, part, place, other):
    """The number of a place of the lot or, if it is outside, of the place that stands for it."""
    if place in lot:
        return lot.index(place)
    return len(lot) if other in part else len(lot) + 1
