"""Papers: sets of ties that are enough to be asked to be sure of a lot, a side or a tree."""

from leastgates.always import broken_of
from leastgates.checks import first_wrong, good_lot, good_ties, good_world, is_row, need_family, need_listed, need_tree
from leastgates.checks import wrong_member
from leastgates.costs import cost
from leastgates.cuttrees import need_cut_tree
from leastgates.errors import BadTies, NotLeast
from leastgates.holding import good_held, need_held, need_holding
from leastgates.leasts import is_least_of
from leastgates.lots import lots_inside, minus
from leastgates.nets import check_twoway
from leastgates.onetree import is_one_for
from leastgates.serving import need_parties, serves_of
from leastgates.stretches import Stretches, need_agreeing

MOST_UNSEEN = 8


def asked(stretches, world, ties):
    """The stretches behind asking the ties in the world."""
    capacities = good_world(stretches.many, world)
    chosen = good_ties(stretches.many, ties)
    need_agreeing(stretches, capacities)
    return asked_of(stretches, capacities, chosen)


def is_half_paper(net, stretches, world, holders, lot, ties):
    """True if the holders always hold the lot behind asking the ties."""
    need_family(net, stretches)
    capacities, places, whole = good_held(net, world, holders, lot)
    chosen = good_unseen(stretches, ties)
    need_half(net, stretches, capacities, places, whole)
    return is_half(net, stretches, capacities, places, whole, chosen)


def lean_half_paper(net, stretches, world, holders, lot, ties):
    """The half paper that is left of the ties when each one not needed is left out, None if they are none."""
    need_family(net, stretches)
    capacities, places, whole = good_held(net, world, holders, lot)
    chosen = good_unseen(stretches, ties)
    need_half(net, stretches, capacities, places, whole)
    return leaned(chosen, lambda left: is_half(net, stretches, capacities, places, whole, left))


def forced_ties(net, stretches, world, holders, lot):
    """The ties that are in each half paper."""
    need_family(net, stretches)
    capacities, places, whole = good_held(net, world, holders, lot)
    need_half(net, stretches, capacities, places, whole)
    gates = net.gates(whole)
    inner = net.inner(whole)
    own = cost(net, capacities, whole)
    found = []
    for inside in lots_inside(places, whole):
        more = cost(net, capacities, inside) - own
        gated = net.gates(inside)
        for tie, (low, high) in enumerate(stretches.pairs):
            rises = tie in gates and tie not in gated and more < high - capacities[tie]
            falls = tie in inner and tie in gated and more < capacities[tie] - low
            if rises or falls:
                found.append(tie)
    return tuple(sorted(set(found)))


def is_paper(net, stretches, world, holders, sinks, side, ties):
    """True if the side serves the holders and the sinks behind asking the ties."""
    need_family(net, stretches)
    capacities, places, ends = good_held(net, world, holders, sinks)
    lot = good_lot(net.size, side)
    chosen = good_unseen(stretches, ties)
    need_parties(places, ends)
    need_listed(net.size)
    need_agreeing(stretches, capacities)
    if not is_least_of(net, capacities, places, ends, lot):
        raise NotLeast(lot)
    return serves_of(net, asked_of(stretches, capacities, chosen), places, ends, lot)


def is_tree_paper(net, stretches, world, tree, ties):
    """True if the tree is one tree behind asking the ties."""
    capacities = good_tree_ask(net, stretches, world, tree)
    chosen = good_unseen(stretches, ties)
    need_listed(net.size)
    need_tree_paper(net, stretches, capacities, tree)
    return is_enough(net, stretches, capacities, tree, chosen)


def lean_tree_paper(net, stretches, world, tree, ties):
    """The paper that is left of the ties when each one not needed is left out, None if they are none."""
    capacities = good_tree_ask(net, stretches, world, tree)
    chosen = good_unseen(stretches, ties)
    need_listed(net.size)
    need_tree_paper(net, stretches, capacities, tree)
    return leaned(chosen, lambda left: is_enough(net, stretches, capacities, tree, left))


def fewest_tree_paper(net, stretches, world, tree):
    """The first paper for the tree of those with the fewest ties."""
    capacities = good_tree_ask(net, stretches, world, tree)
    unseen = stretches.unseen()
    need_listed(net.size)
    need_listed(len(unseen), MOST_UNSEEN)
    need_tree_paper(net, stretches, capacities, tree)
    for ties in lots_inside((), unseen):
        if is_enough(net, stretches, capacities, tree, ties):
            return ties
    return unseen


def good_unseen(stretches, ties):
    """A tie set of unseen ties."""
    wrong = [wrong_member(stretches.many, ties)]
    if is_row(ties):
        unseen = stretches.unseen()
        wrong.append(first_wrong([tie in unseen for tie in ties]))
    found = [at for at in wrong if at is not None]
    if found:
        raise BadTies(min(found))
    return tuple(sorted(ties))


def good_tree_ask(net, stretches, world, tree):
    """The world, with stretches and a tree for a two-way net."""
    check_twoway(net)
    need_family(net, stretches)
    capacities = good_world(net.many, world)
    need_tree(net, tree)
    return capacities


def need_half(net, stretches, world, holders, lot):
    """The holders hold the lot in the world, which agrees with the stretches."""
    need_held(holders, lot)
    need_listed(net.size)
    need_agreeing(stretches, world)
    need_holding(net, world, holders, lot)


def need_tree_paper(net, stretches, world, tree):
    """The tree is a cut tree of the world, which agrees with the stretches."""
    need_agreeing(stretches, world)
    need_cut_tree(net, world, tree)


def asked_of(stretches, world, ties):
    """The stretches behind asking the ties; nothing is checked."""
    return Stretches([(world[tie], world[tie]) if tie in ties else pair for tie, pair in enumerate(stretches.pairs)])


def is_half(net, stretches, world, holders, lot, ties):
    """True if the ties are a half paper; nothing is checked."""
    return broken_of(net, asked_of(stretches, world, ties), holders, lot) is None


def is_enough(net, stretches, world, tree, ties):
    """True if the ties are a paper for the tree; nothing is checked."""
    return is_one_for(net, asked_of(stretches, world, ties), tree)


def leaned(ties, suffices):
    """What is left of ties that suffice when each one is left out, in order, without which the others suffice."""
    if not suffices(ties):
        return None
    left = ties
    for tie in ties:
        fewer = minus(left, (tie,))
        if suffices(fewer):
            left = fewer
    return left
