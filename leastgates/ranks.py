"""The ranks of a world, and what other trees cost beside them."""

from leastgates.checks import need_listed
from leastgates.cuttrees import cut_tree
from leastgates.errors import OtherSize
from leastgates.flows import flow_of
from leastgates.trees import good_world_of


def ranks(net, world):
    """The ascending list of the costs of a cut tree."""
    return sorted(cut_tree(net, world).costs(net, world))


def greatest_tree(net, world):
    """A tree with the greatest flows sum."""
    # Each cut tree is such a tree: its flows are its costs.
    return cut_tree(net, world)


def tree_ranks(tree, net, world):
    """The ascending list of the costs of the tree."""
    costs = tree.costs(net, world)
    need_listed(net.size)
    return sorted(costs)


def flows_sum(tree, net, world):
    """The sum of the flows between the ends of the edges."""
    capacities = good_world_of(tree, net, world)
    need_listed(net.size)
    return sum([flow_of(net, capacities, (p,), (q,)) for p, q in tree])


def matched_edges(tree, other):
    """Pairs of an edge of the tree and its partner: it lies on the way between the ends of the partner."""
    if other.size != tree.size:
        raise OtherSize(other.size)
    ways = [tree.way(p, q) for p, q in other]
    partners = {}
    for at in range(len(ways)):
        is_matched(ways, partners, at, [])
    return sorted(partners.items())


def is_matched(ways, partners, at, tried):
    """True if an edge is found for the edge at of the other tree; others may get another edge for that."""
    for edge in ways[at]:
        if edge not in tried:
            tried.append(edge)
            if edge not in partners or is_matched(ways, partners, partners[edge], tried):
                partners[edge] = at
                return True
    return False
