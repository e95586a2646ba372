"""Rings, nets that hold rings, and nets in whose every world one tree is a cut tree."""

from leastgates.checks import good_tie, is_integer, need_family
from leastgates.errors import BadNumber, HoldsARing, NotARing
from leastgates.nets import check_twoway
from leastgates.trees import Tree, joined_labels


def is_ring(net):
    """True if the net is a ring."""
    check_twoway(net)
    return ring_of(net) is not None


def ring_order(net):
    """All places along the ring, from 0 on to the lesser place beside it."""
    check_twoway(net)
    ring = ring_of(net)
    if ring is None:
        raise NotARing()
    return ring


def found_ring(net):
    """Three or more places with ties along them and back to the first one, None if there are none."""
    check_twoway(net)
    return ring_in(net)


def least_tie(net, family):
    """The least tie of a ring that is never dearer than each other tie, None if there is none."""
    ring_order(net)
    need_family(net, family)
    for tie in range(net.many):
        if all([family.gap((tie,), (other,)) <= 0 for other in range(net.many) if other != tie]):
            return tie
    return None


def ring_tree(net, tie):
    """The tree whose edges are the ends of all ties of the ring but this one."""
    ring_order(net)
    good_tie("tie", net.many, tie)
    return Tree(net.size, net.ties[:tie] + net.ties[tie + 1:])


def ring_worlds(net, top):
    """Two worlds with no cut tree in common, for a net that holds a ring."""
    check_twoway(net)
    ring = ring_in(net)
    if ring is None:
        raise NotARing()
    if not is_integer(top) or top < 1:
        raise BadNumber("top")
    steps = [tuple(sorted(pair)) for pair in zip(ring, ring[1:] + ring[:1])]
    return world_along(net, steps[1:], top), world_along(net, steps[:1] + steps[2:], top)


def forest_tree(net):
    """A tree in which the ends of each tie but loops are neighbours, for a net that holds no ring."""
    check_twoway(net)
    if ring_in(net) is not None:
        raise HoldsARing()
    labels = list(range(net.size))
    edges = []
    for one, other in list(net.ties) + [(0, place) for place in range(1, net.size)]:
        if labels[one] != labels[other]:
            edges.append((one, other))
            labels = joined_labels(labels, (one, other))
    return Tree(net.size, edges)


def ring_of(net):
    """The places along the ring, None if the net is none; nothing is checked."""
    if net.size < 3 or net.many != net.size:
        return None
    beside = [places_beside(net, place) for place in range(net.size)]
    if not all([len(places) == 2 for places in beside]):
        return None
    order = [0, beside[0][0]]
    while order[-1] != 0:
        one, other = beside[order[-1]]
        order.append(other if one == order[-2] else one)
    # The way from 0 comes back to 0; in a ring it has passed all places by then.
    return tuple(order[:-1]) if len(order) == net.size + 1 else None


def places_beside(net, place):
    """The ascending list of the other places that have a tie with the place."""
    ends = [b if a == place else a for a, b in net.ties if place in (a, b)]
    return sorted(set([end for end in ends if end != place]))


def ring_in(net):
    """A ring that the net holds, None if there is none; nothing is checked."""
    labels = list(range(net.size))
    edges = []
    for one, other in net.ties:
        pair = (min(one, other), max(one, other))
        if labels[one] != labels[other]:
            edges.append(pair)
            labels = joined_labels(labels, pair)
        elif one != other and pair not in edges:
            return way_along(edges, one, other)
    return None


def way_along(edges, one, other):
    """The places from the one to the other along edges that hold no ring."""
    ahead = [(one,)]
    while ahead:
        way = ahead.pop()
        if way[-1] == other:
            return way
        for p, q in edges:
            if way[-1] in (p, q):
                place = q if way[-1] == p else p
                if place not in way:
                    ahead.append(way + (place,))
    return None


def world_along(net, pairs, top):
    """The world with the capacity top on all ties between the places of these pairs, and 0 elsewhere."""
    return tuple([top if (min(a, b), max(a, b)) in pairs else 0 for a, b in net.ties])
