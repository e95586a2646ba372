"""Costs of two lots compared over all worlds of a family."""

from leastgates.checks import good_lot, good_two_lots, need_family
from leastgates.lots import minus


def never_dearer(net, family, one, other):
    """True if the one lot costs at most as much as the other one in each world."""
    here, there = good_two_lots(net, family, one, other)
    return cost_gap(net, family, here, there) <= 0


def dearer_world(net, family, one, other):
    """A world in which the one lot costs most beyond the other one, None if it is never dearer."""
    here, there = good_two_lots(net, family, one, other)
    return dearer_of(net, family, here, there)


def alike(net, family, one, other):
    """True if the two lots cost the same in each world."""
    here, there = good_two_lots(net, family, one, other)
    return alike_of(net, family, here, there)


def cost_ends(net, family, lot):
    """The least and the greatest cost of the lot over all worlds."""
    need_family(net, family)
    gates = net.gates(good_lot(net.size, lot))
    return -family.gap((), gates), family.gap(gates, ())


def gates_apart(net, one, other):
    """The gates of the one lot that are no gates of the other one, and the other way; nothing is checked."""
    here = net.gates(one)
    there = net.gates(other)
    return minus(here, there), minus(there, here)


def cost_gap(net, family, one, other):
    """The greatest cost of the one lot less that of the other one; nothing is checked."""
    ups, downs = gates_apart(net, one, other)
    return family.gap(ups, downs)


def dearer_of(net, family, one, other):
    """A world with the greatest gap, None if it is not above 0; nothing is checked."""
    ups, downs = gates_apart(net, one, other)
    if family.gap(ups, downs) <= 0:
        return None
    return family.gap_world(ups, downs)


def alike_of(net, family, one, other):
    """True if neither lot is ever dearer; nothing is checked."""
    ups, downs = gates_apart(net, one, other)
    return family.gap(ups, downs) <= 0 and family.gap(downs, ups) <= 0
