"""How much change held lots and cut trees bear."""

from leastgates.changes import Moves
from leastgates.checks import MOST_LISTED, good_world, need_listed, need_tree
from leastgates.costs import cost
from leastgates.cuttrees import cut_tree_of, good_few_world, need_cut_tree
from leastgates.gaps import gates_apart
from leastgates.holding import good_held, need_held, need_holding
from leastgates.leasts import last_of
from leastgates.lots import lots_inside
from leastgates.nets import check_twoway
from leastgates.shapes import lifted, number_behind, shrunk
from leastgates.stretches import good_amount


def room(net, world, tree):
    """The greatest change behind which the cut tree is one tree still, None if it is so for each change."""
    capacities = good_cut_ask(net, world, tree)
    need_cut_ask(net, capacities, tree)
    return room_of(net, capacities, tree)


def best_room(net, world):
    """The greatest room of all cut trees."""
    capacities = good_few_world(net, world, MOST_LISTED)
    # All cut trees of this middle have the same room, and no cut tree of the world has a greater one.
    return room_of(net, capacities, cut_tree_of(net, Moves(capacities, 1).middle()))


def rise_that_breaks(net, world, tree):
    """A tie, a rise of it, an edge, and a side cheaper than that of the edge then; None if there is none."""
    capacities = good_cut_ask(net, world, tree)
    need_cut_ask(net, capacities, tree)
    tightest = tightest_of(net, capacities, tree)
    if tightest is None:
        return None
    most, tie, at, side = tightest
    return tie, most + 1, at, side


def bears_change(net, world, tree, change):
    """True if the room of the cut tree is at least the change."""
    capacities = good_cut_ask(net, world, tree)
    good_amount("change", change)
    need_cut_ask(net, capacities, tree)
    most = room_of(net, capacities, tree)
    return most is None or most >= change


def held_room(net, world, holders, lot):
    """The greatest change behind which the holders still hold the lot, None if they do so for each change."""
    capacities, places, whole = good_held(net, world, holders, lot)
    need_held(places, whole)
    need_listed(net.size)
    need_holding(net, capacities, places, whole)
    own = cost(net, capacities, whole)
    gaps = [cost(net, capacities, inside) - own for inside in lots_inside(places, whole)
            if gates_apart(net, whole, inside)[0]]
    return min(gaps, default=None)


def good_cut_ask(net, world, tree):
    """The world of a two-way net, and a tree over its places."""
    check_twoway(net)
    capacities = good_world(net.many, world)
    need_tree(net, tree)
    return capacities


def need_cut_ask(net, world, tree):
    """The net has not too many places, and the tree is a cut tree."""
    need_listed(net.size)
    need_cut_tree(net, world, tree)


def room_of(net, world, tree):
    """The room of a cut tree; nothing is checked."""
    tightest = tightest_of(net, world, tree)
    return None if tightest is None else tightest[0]


def tightest_of(net, world, tree):
    """The room, with the tie, the edge and the side that set it; None if there is no room to tell."""
    costs = tree.costs(net, world)
    found = []
    seen = []
    for tie, (one, other) in enumerate(net.ties):
        pair = (min(one, other), max(one, other))
        if tree.dist(one, other) > 1 and pair not in seen:
            seen.append(pair)
            for at in tree.way(one, other):
                side = least_unparted(net, world, pair, tree.edges[at])
                found.append((cost(net, world, side) - costs[at], tie, at, side))
    return min(found, default=None)


def least_unparted(net, world, pair, edge):
    """A cheapest side from the one end of the edge to the other that does not part the pair."""
    p, q = [number_behind(net.size, pair, place) for place in edge]
    return lifted(net.size, pair, last_of(shrunk(net, pair), world, (p,), (q,)))
