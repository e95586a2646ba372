"""The sides of full groves: their number, groves made from sides, and sides left of a tree."""

from leastgates.checks import first_wrong, good_world, is_row, need_family, need_listed, need_side, need_tree
from leastgates.checks import wrong_member
from leastgates.cuttrees import need_cut_tree
from leastgates.errors import BadLot, Crossing, NotPrivate, NoWorld, OtherKind
from leastgates.families import Listed
from leastgates.gaps import alike_of
from leastgates.groves import Grove, is_in_box
from leastgates.leasts import last_of
from leastgates.lots import common, crosses, rest
from leastgates.nets import check_twoway
from leastgates.onetree import one_tree
from leastgates.serving import pairs_of, pairs_settled, served_of
from leastgates.steps import full_grove
from leastgates.trees import joined_labels


def matched(grove, other):
    """Pairs of an edge of each of two groves whose sides are alike, each edge once; None if there are none."""
    if grove.net != other.net or grove.family != other.family:
        raise OtherKind()
    left = list(range(other.many))
    found = []
    for at, side in enumerate(grove.side_list()):
        fitting = [at2 for at2 in left if alike_of(grove.net, grove.family, side, other.side(at2))]
        if not fitting:
            return None
        left = [at2 for at2 in left if at2 != fitting[0]]
        found.append((at, fitting[0]))
    return None if left else found


def sides_number(net, family):
    """How many sides each full grove has."""
    return full_grove(net, family).many


def parts_number(net, family):
    """The sides number, counted by blocks of settled pairs whose sides are alike."""
    check_twoway(net)
    need_family(net, family)
    need_listed(net.size)
    middle = family.middle()
    sides = []
    kinds = []
    for p, q in pairs_settled(net, family):
        side = last_of(net, middle, (p,), (q,))
        at = first_wrong([not alike_of(net, family, side, other) for other in sides])
        if at is None:
            sides.append(side)
            kinds.append([(p, q)])
        else:
            kinds[at].append((p, q))
    return sum([blocks_beyond(net.size, pairs) for pairs in kinds])


def blocks_beyond(size, pairs):
    """The number of blocks, less 1 for each set of joined places."""
    labels = list(range(size))
    for pair in pairs:
        labels = joined_labels(labels, pair)
    total = 0
    for label in sorted(set(labels)):
        firsts = []
        for place in range(size):
            if labels[place] == label and all([(first, place) in pairs for first in firsts]):
                firsts.append(place)
        total += len(firsts) - 1
    return total


def grove_from(net, family, sides):
    """The grove with these sides, or their rests."""
    check_twoway(net)
    need_family(net, family)
    lots = good_sides(net.size, sides)
    need_uncrossed(net.size, lots)
    need_listed(net.size)
    boxes = [served_of(net, family, lot) for lot in lots]
    need_private(net, boxes)
    return joined_by(net, family, lots, boxes)


def thinned_tree(net, family, tree, *, backwards=False):
    """The sides of a cut tree of the middle that are left when one by one those not needed are taken away."""
    check_twoway(net)
    need_family(net, family)
    need_tree(net, tree)
    need_listed(net.size)
    need_cut_tree(net, family.middle(), tree)
    boxes = [served_of(net, family, tree.side(at)) for at in range(len(tree))]
    pairs = pairs_settled(net, family)
    left = list(range(len(tree)))
    order = left[::-1] if backwards else list(left)
    for at in order:
        others = [other for other in left if other != at]
        if all([is_served(boxes, others, pair) for pair in pairs]):
            left = others
    return [tree.side(at) for at in left]


def common_tree(net, worlds):
    """A tree that is a cut tree of all the worlds, None if there is none."""
    check_twoway(net)
    if not is_row(worlds) or len(worlds) == 0:
        raise NoWorld()
    return one_tree(net, Listed.of_list([good_world(net.many, world) for world in worlds]))


def good_sides(size, sides):
    """The sides, each ascending, in the order as passed."""
    if not is_row(sides):
        raise BadLot(-1)
    wrong = first_wrong([wrong_member(size, side) is None for side in sides])
    if wrong is not None:
        raise BadLot(wrong)
    lots = [tuple(sorted(side)) for side in sides]
    for lot in lots:
        need_side(size, lot)
    return lots


def need_uncrossed(size, lots):
    """No two of the sides cross or part the places alike."""
    for at, lot in enumerate(lots):
        for at2 in range(at + 1, len(lots)):
            if lots[at2] in (lot, rest(size, lot)) or crosses(size, lot, lots[at2]):
                raise Crossing(at, at2)


def need_private(net, boxes):
    """Each side serves two places that no other side serves."""
    for at, box in enumerate(boxes):
        others = [other for other in range(len(boxes)) if other != at]
        served_pairs = [(p, q) for p, q in pairs_of(net) if is_in_box(box, p, q)]
        if all([is_served(boxes, others, pair) for pair in served_pairs]):
            raise NotPrivate(at)


def is_served(boxes, numbers, pair):
    """True if one of the sides with these numbers serves the two places."""
    one, other = pair
    return any([is_in_box(boxes[at], one, other) for at in numbers])


def joined_by(net, family, sides, boxes):
    """The grove with these private sides."""
    marks = [tuple([place in side for side in sides]) for place in range(net.size)]
    kinds = sorted(set(marks))
    lots = [tuple([place for place, mark in enumerate(marks) if mark == kind]) for kind in kinds]
    edges = []
    posts = []
    for at, (here, there) in enumerate(boxes):
        for number, kind in enumerate(kinds):
            # The two lots of an edge are those that no other side parts.
            beyond = kind[:at] + (False,) + kind[at + 1:]
            if kind[at] and beyond in kinds:
                other = kinds.index(beyond)
                edges.append((number, other))
                posts.append((common(here, lots[number])[0], common(there, lots[other])[0]))
    return Grove(net, family, lots, edges, posts)
