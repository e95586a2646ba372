"""Groves made finer step by step, until they are full."""

from leastgates.checks import good_place, need_family, need_two
from leastgates.cuttrees import uncrossed
from leastgates.errors import NotOneLot, NotSettled, OtherKind
from leastgates.groves import Grove
from leastgates.lots import common, minus, rest
from leastgates.nets import all_lot, check_twoway
from leastgates.serving import pairs_settled, serving_of


def first_grove(net, family):
    """The grove with one lot."""
    return Grove(net, family, [all_lot(net)], [], [])


def refine(grove, one, other):
    """A grove with one lot more, in which an edge serves the two places."""
    good_place("one", grove.net.size, one)
    good_place("other", grove.net.size, other)
    need_two(one, other)
    if grove.lot_at(one) != grove.lot_at(other):
        raise NotOneLot(one, other)
    side = serving_of(grove.net, grove.family, (one,), (other,))
    if side is None:
        raise NotSettled(one, other)
    return split_by(grove, one, other, side)


def full_grove(net, family, *, start=None, last=False):
    """A full grove that refines the first grove, or the start."""
    check_twoway(net)
    need_family(net, family)
    grove = begun_grove(net, family, start)
    pairs = pairs_settled(net, family)
    inside = pairs_inside(grove, pairs)
    while inside:
        one, other = inside[-1] if last else inside[0]
        grove = refine(grove, one, other)
        inside = pairs_inside(grove, inside)
    return grove


def begun_grove(net, family, start):
    """The grove that full_grove begins with."""
    if start is None:
        return first_grove(net, family)
    if start.net != net:
        raise OtherKind()
    return Grove(net, family, start.lots, start.edges, start.posts)


def pairs_inside(grove, pairs):
    """Those of the pairs that lie in one lot."""
    return [(p, q) for p, q in pairs if grove.lot_at(p) == grove.lot_at(q)]


def split_by(grove, one, other, side):
    """The grove behind splitting the lot of the two places by a side that serves them."""
    here = grove.lot_at(one)
    branches = [branch_of(grove, at, here) for at, pair in enumerate(grove.edges) if here in pair]
    whole = side
    for _, _, post, branch in branches:
        whole = uncrossed(whole, branch, post)
    lot = grove.lots[here]
    last = len(grove.lots)
    lots = grove.lots[:here] + (common(lot, whole),) + grove.lots[here + 1:] + (minus(lot, whole),)
    kept = [at for at, pair in enumerate(grove.edges) if here not in pair]
    edges = [grove.edges[at] for at in kept] + [(here, last)]
    posts = [grove.posts[at] for at in kept] + [(one, other)]
    for there, own, post, branch in branches:
        end, instead = (last, other) if minus(branch, whole) else (here, one)
        edges.append((end, there))
        posts.append((own if own in lots[end] else instead, post))
    return Grove(grove.net, grove.family, lots, edges, posts)


def branch_of(grove, at, here):
    """An edge seen from its lot here: the other lot, the post here, the post there, and all places beyond."""
    first, second = grove.edges[at]
    one, other = grove.posts[at]
    if here == first:
        return second, one, other, rest(grove.net.size, grove.side(at))
    return first, other, one, grove.side(at)
