"""Trees that are cut trees in all worlds of a family."""

from leastgates.checks import need_family, need_listed, need_tree
from leastgates.cuttrees import cut_tree_of
from leastgates.errors import NotFull
from leastgates.nets import check_twoway
from leastgates.serving import cheaper_of, pairs_of
from leastgates.steps import full_grove
from leastgates.trees import Tree


def one_tree(net, family):
    """A tree that is a cut tree in each world, None if there is none."""
    tree = middle_tree(net, family)
    # If there is one, each cut tree of the middle is one.
    return tree if is_one_for(net, family, tree) else None


def is_one_tree(net, family, tree):
    """True if the tree is a cut tree in each world."""
    return failing(net, family, tree) is None


def failing(net, family, tree):
    """The first edge whose side does not serve it, a world and a cheaper side there; None if there is none."""
    check_twoway(net)
    need_family(net, family)
    need_tree(net, tree)
    need_listed(net.size)
    return first_failing(net, family, tree)


def middle_tree(net, family):
    """A cut tree of the middle."""
    check_twoway(net)
    need_family(net, family)
    need_listed(net.size)
    return cut_tree_of(net, family.middle())


def stuck_lot(net, family):
    """A lot of two or more places of a full grove, None if there is one tree."""
    for lot in full_grove(net, family):
        if len(lot) > 1:
            return lot
    return None


def tree_of(grove):
    """The tree of a grove in which each lot is one place."""
    for p, q in pairs_of(grove.net):
        if grove.lot_at(p) == grove.lot_at(q):
            raise NotFull(p, q)
    return Tree(len(grove), grove.posts)


def first_failing(net, family, tree):
    """What failing answers; nothing is checked."""
    for at, (p, q) in enumerate(tree):
        cheaper = cheaper_of(net, family, (p,), (q,), tree.side(at))
        if cheaper is not None:
            world, side = cheaper
            return at, world, side
    return None


def is_one_for(net, family, tree):
    """True if the tree is one for the family; nothing is checked."""
    return first_failing(net, family, tree) is None
