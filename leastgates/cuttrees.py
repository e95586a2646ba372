"""Cut trees of a world: trees each of whose sides is least for the two ends of its edge."""

from leastgates.checks import MOST_LISTED, good_place, good_world, need_listed, need_tree, need_two
from leastgates.costs import cost
from leastgates.errors import NotACutTree
from leastgates.leasts import last_of
from leastgates.lots import both, lots_inside, minus
from leastgates.nets import all_lot, check_twoway
from leastgates.trees import MOST_IN_ALL_TREES, Tree, all_trees


def is_cut_tree(net, world, tree):
    """True if the tree is a cut tree of the world."""
    return cheaper_side(net, world, tree) is None


def cheaper_side(net, world, tree):
    """The first edge whose side is not least, and a least side for it; None for a cut tree."""
    check_twoway(net)
    capacities = good_world(net.many, world)
    need_tree(net, tree)
    need_listed(net.size)
    return first_cheaper(net, capacities, tree)


def cut_tree(net, world):
    """A cut tree of the world."""
    return cut_tree_of(net, good_few_world(net, world, MOST_LISTED))


def cut_trees(net, world):
    """The list of all cut trees of the world, in order."""
    return cut_trees_of(net, good_few_world(net, world, MOST_IN_ALL_TREES))


def least_total(net, world):
    """The least total of all trees."""
    return least_of(net, good_few_world(net, world, MOST_LISTED))


def flow_on(tree, net, world, one, other):
    """The least cost of an edge on the way between two places."""
    costs = tree.costs(net, world)
    good_place("one", net.size, one)
    good_place("other", net.size, other)
    need_two(one, other)
    need_listed(net.size)
    return min([costs[at] for at in tree.way(one, other)])


def uncrossed(side, branch, post):
    """The side with the whole branch if the post is in it, else without it; nothing is checked."""
    if post in side:
        return both(side, branch)
    return minus(side, branch)


def good_few_world(net, world, most):
    """The world of a two-way net with at most so many places."""
    check_twoway(net)
    capacities = good_world(net.many, world)
    need_listed(net.size, most)
    return capacities


def first_cheaper(net, world, tree):
    """What cheaper_side answers; nothing is checked."""
    for at, (p, q) in enumerate(tree):
        least = last_of(net, world, (p,), (q,))
        if cost(net, world, tree.side(at)) > cost(net, world, least):
            return at, least
    return None


def need_cut_tree(net, world, tree):
    """The tree is a cut tree of the world."""
    cheaper = first_cheaper(net, world, tree)
    if cheaper is not None:
        raise NotACutTree(cheaper[0])


def cut_tree_of(net, world):
    """A cut tree; nothing is checked."""
    # Each place hangs at another one, at first all at the place 0. A least side between a place and
    # the one above it takes what it has of the places that hang there; if it even has the place
    # above that one, the two change their positions. No flow in a smaller net is needed for this.
    above = [0] * net.size
    for place in range(1, net.size):
        other = above[place]
        side = last_of(net, world, (place,), (other,))
        above = [place if beside in side and beside != place and higher == other else higher
                 for beside, higher in enumerate(above)]
        if above[other] in side:
            above[place] = above[other]
            above[other] = place
    return Tree(net.size, [(place, above[place]) for place in range(1, net.size)])


def cut_trees_of(net, world):
    """The list of all cut trees, in order; nothing is checked."""
    least = least_of(net, world)
    costs = {lot: cost(net, world, lot) for lot in lots_inside((), all_lot(net))}
    return [tree for tree in all_trees(net.size) if sum([costs[tree.side(at)] for at in range(len(tree))]) == least]


def least_of(net, world):
    """The least total of all trees; nothing is checked."""
    return cut_tree_of(net, world).total(net, world)
