"""Places that stand for their lots, and the nets around a lot."""

from leastgates.checks import MOST_PLACES, first_wrong, good_lot, good_place, good_size, good_world
from leastgates.checks import is_index, is_integer, is_pair, is_row, need_filled, need_inside, need_listed
from leastgates.errors import BadNumber, BadTies
from leastgates.holding import is_held
from leastgates.nets import MOST_TIES, net_of_kind


def stands(net, world, place, lot):
    """True if the place stands for the lot: if it is a holder of it."""
    capacities = good_world(net.many, world)
    good_place("place", net.size, place)
    whole = good_lot(net.size, lot)
    need_filled("lot", whole)
    need_inside((place,), whole)
    need_listed(net.size)
    return is_held(net, capacities, (place,), whole)


def around(net, lot, ends, *, more=(), places=1):
    """A net around the lot, with so many places outside."""
    whole = good_lot(net.size, lot)
    if not is_integer(places) or places < 0 or len(whole) + places > MOST_PLACES:
        raise BadNumber("places")
    inner = net.inner(whole)
    gates = net.gates(whole)
    need_ends_outside(ends, len(gates), places)
    need_ties_outside(more, MOST_TIES - len(inner) - len(gates), places)
    need_filled("lot", whole)
    need_listed(net.size)
    ties = [ends_around(whole, net.ties[tie], 0) for tie in inner]
    ties = ties + [ends_around(whole, net.ties[tie], end) for tie, end in zip(gates, ends)]
    ties = ties + [(len(whole) + a, len(whole) + b) for a, b in more]
    return net_of_kind(net.KIND, len(whole) + places, ties)


def around_world(net, lot, world, more):
    """The capacities of the inner ties of the lot, of its gates, and the further ones."""
    whole = good_lot(net.size, lot)
    capacities = good_world(net.many, world)
    others = good_world(None, more)
    need_filled("lot", whole)
    need_listed(net.size)
    return tuple([capacities[tie] for tie in net.inner(whole) + net.gates(whole)]) + others


def inside_lot(size, lot):
    """The lot of the numbers that the places of the lot have in a net around it."""
    good_size(size)
    whole = good_lot(size, lot)
    need_filled("lot", whole)
    return tuple(range(len(whole)))


def need_ends_outside(ends, many, places):
    """So many places outside, equal ones among them."""
    if not is_row(ends) or len(ends) != many:
        raise BadTies(-1)
    wrong = first_wrong([is_index(end, places) for end in ends])
    if wrong is not None:
        raise BadTies(wrong)


def need_ties_outside(more, most, places):
    """At most so many pairs of places outside."""
    if not is_row(more) or len(more) > most:
        raise BadTies(-1)
    wrong = first_wrong([is_pair(places, pair) for pair in more])
    if wrong is not None:
        raise BadTies(wrong)


def ends_around(lot, pair, end):
    """The ends of a tie in the net around the lot, whose end outside is the place with this number there."""
    first, second = [lot.index(place) if place in lot else len(lot) + end for place in pair]
    return first, second
