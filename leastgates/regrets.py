"""What a fit side costs at most beyond the least sides, over all worlds of a family."""

from leastgates.checks import good_lot, good_two_lots, need_apart, need_family, need_filled, need_listed
from leastgates.costs import amount
from leastgates.gaps import cost_gap
from leastgates.holding import need_held
from leastgates.leasts import fit_lots, least_lots
from leastgates.lots import lots_inside, minus, rest
from leastgates.serving import good_fit_ask
from leastgates.stretches import side_high


def regret(net, family, holders, sinks, side):
    """The greatest cost of the side less the flow."""
    places, ends, lot = good_fit_ask(net, family, holders, sinks, side)
    return most_beyond(net, family, lot, fit_lots(net.size, places, ends))


def inner_regret(net, family, holders, lot):
    """The greatest cost of the lot less that of a lot between the holders and it."""
    places, whole = good_inner_ask(net, family, holders, lot)
    return most_beyond(net, family, whole, lots_inside(places, whole))


def outer_regret(net, family, sinks, side):
    """The inner regret of the other places from the sinks, in the turned net."""
    need_family(net, family)
    ends = good_lot(net.size, sinks)
    lot = good_lot(net.size, side)
    need_filled("sinks", ends)
    need_apart(ends, lot)
    need_listed(net.size)
    others = rest(net.size, lot)
    return most_beyond(~net, family, others, lots_inside(ends, others))


def worst_inside(net, stretches, holders, lot):
    """The lots between the holders and the lot that cost least in the world X HIGH, by size."""
    places, whole = good_inner_ask(net, stretches, holders, lot)
    return least_lots(net, side_high(net, stretches, whole), places, rest(net.size, whole))


def joined_regret(net, stretches, holders, sinks, side):
    """True if no capacity joins what some worst lot inside and some worst lot outside leave."""
    places, ends, lot = good_fit_ask(net, stretches, holders, sinks, side)
    world = side_high(net, stretches, lot)
    others = rest(net.size, lot)
    outside = [minus(others, worst) for worst in least_lots(~net, world, ends, lot)]
    for worst in least_lots(net, world, places, others):
        left = minus(lot, worst)
        if any([amount(world, net.between(left, beyond)) == 0 for beyond in outside]):
            return True
    return False


def good_inner_ask(net, family, holders, lot):
    """Holders and the lot in which they lie, in a net that is not too great."""
    places, whole = good_two_lots(net, family, holders, lot)
    need_held(places, whole)
    need_listed(net.size)
    return places, whole


def most_beyond(net, family, lot, others):
    """The greatest cost of the lot less that of any of the other lots; nothing is checked."""
    return max([cost_gap(net, family, lot, other) for other in others])
