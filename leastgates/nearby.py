"""Cut trees of worlds that are near to each other, and the holders that a cut tree tells."""

from leastgates.checks import good_tie, good_world, is_index, need_listed
from leastgates.costs import added
from leastgates.cuttrees import cut_trees_of, least_of, need_cut_tree
from leastgates.errors import BadNumber
from leastgates.nets import check_twoway
from leastgates.trees import MOST_IN_ALL_TREES


def least_dist(net, world, tie):
    """The least dist of the ends of the tie over all cut trees."""
    _, dists = trees_with_dists(net, world, tie)
    return min(dists)


def greatest_dist(net, world, tie):
    """The greatest dist of the ends of the tie over all cut trees."""
    _, dists = trees_with_dists(net, world, tie)
    return max(dists)


def trees_raised(net, world, tie):
    """The list of the cut trees that stay so when the tie is raised by 1, in order."""
    trees, dists = trees_with_dists(net, world, tie)
    return [tree for tree, dist in zip(trees, dists) if dist == min(dists)]


def trees_lowered(net, world, tie):
    """The list of the cut trees that stay so when the tie is lowered by 1, in order."""
    trees, dists = trees_with_dists(net, world, tie)
    if world[tie] == 0:
        raise BadNumber("tie")
    return [tree for tree, dist in zip(trees, dists) if dist == max(dists)]


def common_trees(net, one, other):
    """The list of the trees that are cut trees of both worlds, in order."""
    check_twoway(net)
    here = good_world(net.many, one)
    there = good_world(net.many, other)
    need_listed(net.size, MOST_IN_ALL_TREES)
    total = added(net, here, there)
    if least_of(net, total) > least_of(net, here) + least_of(net, there):
        return []
    return cut_trees_of(net, total)


def holders_by(tree, net, world, at):
    """The holders of the side of the edge, for a cut tree."""
    costs = tree.costs(net, world)
    if not is_index(at, len(tree)):
        raise BadNumber("at")
    need_listed(net.size)
    need_cut_tree(net, world, tree)
    end, _ = tree.edges[at]
    return tuple([place for place in tree.side(at)
                  if all([costs[other] >= costs[at] for other in tree.way(place, end)])])


def trees_with_dists(net, world, tie):
    """The list of all cut trees, and the dist of the ends of the tie in each of them."""
    check_twoway(net)
    capacities = good_world(net.many, world)
    one, other = net.ties[good_tie("tie", net.many, tie)]
    need_listed(net.size, MOST_IN_ALL_TREES)
    trees = cut_trees_of(net, capacities)
    return trees, [tree.dist(one, other) for tree in trees]
