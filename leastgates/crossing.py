"""Sides that cross: the corners that take over what they serve, and the ties that are dead then."""

from leastgates.checks import good_lot, good_pair, good_two_lots, need_family, need_listed, need_two
from leastgates.errors import NotServing
from leastgates.gaps import alike_of
from leastgates.lots import both, common, corners, minus, parts
from leastgates.nets import check_twoway
from leastgates.serving import cheaper_of, pairs_of


def corner_for(net, family, one, one_pair, other, other_pair):
    """The first corner that stands for the one lot and the first one that stands for the other lot."""
    check_twoway(net)
    need_family(net, family)
    here = good_lot(net.size, one)
    here_pair = good_pair(net.size, one_pair)
    there = good_lot(net.size, other)
    there_pair = good_pair(net.size, other_pair)
    need_two(*here_pair)
    need_two(*there_pair)
    need_listed(net.size)
    need_serving(net, family, here, here_pair)
    need_serving(net, family, there, there_pair)
    lots = corners(net.size, here, there)
    return first_like(net, family, lots, here, here_pair), first_like(net, family, lots, there, there_pair)


def empty_corners(net, family, one, other):
    """The pairs of opposite corners between which each tie is dead."""
    here, there = good_two_lots(net, family, one, other)
    need_listed(net.size)
    inside, one_alone, other_alone, outside = corners(net.size, here, there)
    dead = family.dead()
    opposite = ((inside, outside), (one_alone, other_alone))
    return [pair for pair in opposite if minus(net.between(pair[0], pair[1]), dead) == ()]


def oneway_corners(net, one, other):
    """What is in both lots, and what is in one of them."""
    here = good_lot(net.size, one)
    there = good_lot(net.size, other)
    need_listed(net.size)
    return common(here, there), both(here, there)


def never_cross(net, family):
    """True if each two places are joined by a tie that is not dead."""
    check_twoway(net)
    need_family(net, family)
    need_listed(net.size)
    dead = family.dead()
    return all([minus(net.between((p,), (q,)), dead) != () for p, q in pairs_of(net)])


def need_serving(net, family, lot, pair):
    """The lot serves the two places, in one order or in the other."""
    if not serves_two(net, family, lot, pair):
        raise NotServing(lot)


def serves_two(net, family, lot, pair):
    """True if the lot parts the two places and serves them from the one that it has; nothing is checked."""
    one, other = pair
    if not parts(lot, one, other):
        return False
    inside, outside = (one, other) if one in lot else (other, one)
    return cheaper_of(net, family, (inside,), (outside,), lot) is None


def first_like(net, family, lots, lot, pair):
    """The first of the lots that parts the pair and is alike to the lot; of four corners some one does."""
    one, other = pair
    found = [corner for corner in lots if parts(corner, one, other) and alike_of(net, family, corner, lot)]
    return found[0]
