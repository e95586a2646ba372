"""Worlds, costs of lots, and two-way nets told by costs."""

from leastgates.checks import MOST_PLACES, first_wrong, good_lot, good_world, is_integer, is_row
from leastgates.errors import BadTable
from leastgates.lots import both, common, minus
from leastgates.nets import MOST_TIES, Twoway, check_twoway


def world_of(net, world):
    """The world as a tuple."""
    return good_world(net.many, world)


def amount(world, ties):
    """The sum of the capacities of a tie set; nothing is checked."""
    return sum([world[tie] for tie in ties])


def cost(net, world, lot):
    """What the lot costs in the world."""
    capacities = world_of(net, world)
    return amount(capacities, net.gates(lot))


def spared(net, world, one, other):
    """What X and Y cost more than X & Y and X + Y."""
    capacities = world_of(net, world)
    one_lot = good_lot(net.size, one)
    other_lot = good_lot(net.size, other)
    corner_lots = (common(one_lot, other_lot), both(one_lot, other_lot))
    return costs_less(net, capacities, (one_lot, other_lot), corner_lots)


def spared_apart(net, world, one, other):
    """What X and Y cost more than X - Y and Y - X in a two-way net."""
    check_twoway(net)
    capacities = world_of(net, world)
    one_lot = good_lot(net.size, one)
    other_lot = good_lot(net.size, other)
    corner_lots = (minus(one_lot, other_lot), minus(other_lot, one_lot))
    return costs_less(net, capacities, (one_lot, other_lot), corner_lots)


def costs_less(net, world, plus, less):
    """The costs of the lots in plus less those of the lots in less."""
    here = sum([cost(net, world, lot) for lot in plus])
    return here - sum([cost(net, world, lot) for lot in less])


def added(net, world, *worlds):
    """The sum of all these worlds."""
    rows = [world_of(net, told) for told in (world, *worlds)]
    return tuple([sum([row[tie] for row in rows]) for tie in range(net.many)])


def net_told(singles, doubles):
    """A two-way net and its world, in which each place and each pair costs what is told."""
    if not is_costs(singles) or not is_costs(doubles):
        raise BadTable(-1)
    size = len(singles)
    if not 1 <= size <= MOST_PLACES or len(doubles) != size * (size - 1) // 2:
        raise BadTable(-1)
    pairs = [(p, q) for p in range(size) for q in range(p + 1, size)]
    doubled = [singles[p] + singles[q] - doubles[at] for at, (p, q) in enumerate(pairs)]
    wrong = first_wrong([twice >= 0 and twice % 2 == 0 for twice in doubled])
    if wrong is not None:
        raise BadTable(wrong)
    tied = [(pair, doubled[at] // 2) for at, pair in enumerate(pairs) if doubled[at] > 0]
    for place in range(size):
        if singles[place] != sum([capacity for pair, capacity in tied if place in pair]):
            raise BadTable(-1)
    if len(tied) > MOST_TIES:
        raise BadTable(-1)
    return Twoway(size, [pair for pair, _ in tied]), tuple([capacity for _, capacity in tied])


def is_costs(value):
    """True for a list or tuple of integers."""
    return is_row(value) and all([is_integer(told) for told in value])
