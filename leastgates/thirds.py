"""Three places of a two-way net: what two serving sides tell of the third pair."""

from leastgates.checks import good_place, good_world, need_family, need_listed, need_three
from leastgates.costs import cost
from leastgates.errors import NotSettled
from leastgates.gaps import cost_gap
from leastgates.nets import check_twoway
from leastgates.serving import serving_of


def third(net, family, p, q, r):
    """The last serving sides of (p, q) and of (q, r), None if one of the pairs is not settled."""
    good_places(net, family, p, q, r)
    need_three_few(net, p, q, r)
    one = serving_of(net, family, (p,), (q,))
    other = serving_of(net, family, (q,), (r,))
    if one is None or other is None:
        return None
    return one, other


def third_flow(net, family, p, q, r, world):
    """The lesser cost of the two sides in the world."""
    good_places(net, family, p, q, r)
    capacities = good_world(net.many, world)
    need_three_few(net, p, q, r)
    one, other = settled_sides(net, family, p, q, r)
    return min(cost(net, capacities, one), cost(net, capacities, other))


def third_settled(net, family, p, q, r):
    """True if one of the two sides is never dearer than the other one."""
    good_places(net, family, p, q, r)
    need_three_few(net, p, q, r)
    one, other = settled_sides(net, family, p, q, r)
    return cost_gap(net, family, one, other) <= 0 or cost_gap(net, family, other, one) <= 0


def good_places(net, family, p, q, r):
    """The net, the family and the three places by their forms."""
    check_twoway(net)
    need_family(net, family)
    good_place("p", net.size, p)
    good_place("q", net.size, q)
    good_place("r", net.size, r)


def need_three_few(net, p, q, r):
    """The places differ, and the net has not too many of them."""
    need_three(p, q, r)
    need_listed(net.size)


def settled_sides(net, family, p, q, r):
    """The two sides of third; both pairs must be settled."""
    one = serving_of(net, family, (p,), (q,))
    if one is None:
        raise NotSettled(p, q)
    other = serving_of(net, family, (q,), (r,))
    if other is None:
        raise NotSettled(q, r)
    return one, other
