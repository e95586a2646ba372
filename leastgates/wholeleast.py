"""Sides that are cheapest of all sides of a two-way net, in all worlds of a family."""

from leastgates.checks import good_lot, good_tie, good_world, need_family, need_listed, need_side
from leastgates.costs import cost
from leastgates.errors import BadTie
from leastgates.gaps import cost_gap
from leastgates.lots import all_sides, by_size, rest
from leastgates.nets import check_twoway


def is_whole_least(net, family, side):
    """True if the side is never dearer than any side."""
    check_twoway(net)
    need_family(net, family)
    lot = good_lot(net.size, side)
    need_side(net.size, lot)
    need_listed(net.size)
    return is_whole(net, family, lot)


def whole_least(net, family):
    """The list of the whole-least sides with the place 0, by size."""
    check_twoway(net)
    need_family(net, family)
    need_listed(net.size)
    return wholes_of(net, family)


def whole_cost(net, world):
    """The least cost of all sides, None if there is no side."""
    check_twoway(net)
    capacities = good_world(net.many, world)
    need_listed(net.size)
    return min([cost(net, capacities, side) for side in half_sides(net)], default=None)


def whole_chain(net, stretches, tie):
    """The list of the whole-least sides with the first end of an unseen tie and without its second end, by size."""
    check_twoway(net)
    need_family(net, stretches)
    good_tie("tie", net.many, tie)
    if tie not in stretches.unseen():
        raise BadTie("tie")
    need_listed(net.size)
    first, second = net.ties[tie]
    wholes = wholes_of(net, stretches)
    sides = wholes + [rest(net.size, side) for side in wholes]
    return by_size([side for side in sides if first in side and second not in side])


def whole_edge(grove):
    """The least number of an edge of the grove whose side is whole-least, None if there is none."""
    for at, side in enumerate(grove.side_list()):
        if is_whole(grove.net, grove.family, side):
            return at
    return None


def half_sides(net):
    """The list of all sides with the place 0, by size; each other side is the rest of one of them."""
    return list(all_sides(net.size, with_place=0))


def is_whole(net, family, lot):
    """True if the lot is never dearer than any side; nothing is checked."""
    return all([cost_gap(net, family, lot, other) <= 0 for other in half_sides(net)])


def wholes_of(net, family):
    """The list of the whole-least sides with the place 0, by size; nothing is checked."""
    middle = family.middle()
    costs = [(cost(net, middle, side), side) for side in half_sides(net)]
    least = min([amount for amount, _ in costs], default=None)
    found = [side for amount, side in costs if amount == least]
    # All sides that are cheapest in the middle are whole-least, or no side is.
    if found and is_whole(net, family, found[0]):
        return found
    return []
