"""Which raises of ties a tree bears: behind which of them it is a cut tree still."""

from leastgates.checks import good_ties, good_world, need_listed, need_tree
from leastgates.cuttrees import need_cut_tree
from leastgates.nets import check_twoway
from leastgates.raising import with_capacity


def bears_raises(net, tree, ties):
    """True if each of the ties is a loop or has neighbours in the tree as its ends."""
    check_twoway(net)
    need_tree(net, tree)
    return first_far(net, tree, good_ties(net.many, ties)) is None


def raise_that_breaks(net, world, tree, ties):
    """A world in which one of the ties is raised and the tree is no cut tree, None if it bears all raises."""
    check_twoway(net)
    capacities = good_world(net.many, world)
    need_tree(net, tree)
    raisable = good_ties(net.many, ties)
    need_listed(net.size)
    need_cut_tree(net, capacities, tree)
    tie = first_far(net, tree, raisable)
    if tie is None:
        return None
    # Beside an edge on the way there is a side without the tie as a gate. It costs no more than
    # all ties together, so a tie that is dearer than this makes the side of the edge too dear.
    return with_capacity(capacities, tie, sum(capacities) + 1)


def first_far(net, tree, ties):
    """The first of the ties with a dist of 2 or more between its ends, None if there is none."""
    for tie in ties:
        one, other = net.ties[tie]
        if tree.dist(one, other) > 1:
            return tie
    return None
