"""The calls of the modules from cuttrees to splits, as a table of asks."""

from leastgates import errors as e
from leastgates.bearing import bears_raises, raise_that_breaks
from leastgates.cuttrees import cheaper_side, cut_tree, cut_trees, flow_on, is_cut_tree, least_total
from leastgates.families import Listed, Told
from leastgates.groves import Grove
from leastgates.nearby import common_trees, greatest_dist, holders_by, least_dist, trees_lowered, trees_raised
from leastgates.nets import Twoway
from leastgates.onetree import failing, is_one_tree, middle_tree, one_tree, stuck_lot, tree_of
from leastgates.ranks import flows_sum, greatest_tree, matched_edges, ranks, tree_ranks
from leastgates.splits import common_tree, grove_from, matched, parts_number, sides_number, thinned_tree
from leastgates.steps import first_grove, full_grove, refine
from leastgates.trees import Tree
from tests.asks_families import NET
from tests.asks_pairs import FAMILY, KNOWN, TOO_BIG, WORLDS, pairs_wrong
from tests.forms import (BIG, NOT_INTEGERS, NOT_ROWS, TIES, TOLD, TWO, WORLD, Ask, Form, no_form, number_form,
                         place_form, same_later, tie_form, ties_form)

# In the world of TOLD the places cost 4, 5, 6 and 5, and the lot (0, 1) costs 3.
CUT = Tree(4, [(0, 1), (1, 2), (2, 3)])
CUT_EIGHT = Tree(8, CUT.edges + ((0, 4), (0, 5), (0, 6), (0, 7)))
LACKS = Tree(4, [(0, 1), (1, 3), (2, 3)])
EIGHT = Twoway(8, TIES)
SEVEN = Twoway(7, TIES)
TREES = (CUT, Form([(tree, (e.OtherSize, tree.size)) for tree in (Tree.star(3, 0), Tree.star(5, 2), Tree(1, []))]))
NO_CUT = (e.NotACutTree, 2)
ZERO = Listed(WORLD, [0] * 5)


def tree_big(at):
    """A net and a tree that are too great, and those that are just not."""
    return {"big": {0: BIG, at: Tree.star(9, 0)}, "most": {0: EIGHT, at: CUT_EIGHT}}


def cut_asks():
    ends = [(0, place_form("one")), (3, place_form("other"))]

    def on_tree(net, tree, *more):
        return flow_on(tree, net, *more)

    return [
        Ask("is_cut_tree", is_cut_tree, NET, WORLDS, TREES, twoway=True, **tree_big(2)),
        Ask("cheaper_side", cheaper_side, NET, WORLDS, (LACKS, TREES[1]), twoway=True, **tree_big(2)),
        Ask("cut_tree", cut_tree, NET, WORLDS, big=TOO_BIG, twoway=True),
        Ask("cut_trees", cut_trees, NET, WORLDS, big={0: SEVEN}, limit=7, twoway=True),
        Ask("least_total", least_total, NET, WORLDS, big=TOO_BIG, twoway=True),
        Ask("flow_on", on_tree, NET, TREES, WORLDS, *ends, later=same_later(3, 4), twoway=True, **tree_big(1)),
        Ask("ranks", ranks, NET, WORLDS, big=TOO_BIG, twoway=True),
        Ask("greatest_tree", greatest_tree, NET, WORLDS, big=TOO_BIG, twoway=True),
        Ask("tree_ranks", lambda net, tree, world: tree_ranks(tree, net, world), NET, TREES, WORLDS, twoway=True,
            **tree_big(1)),
        Ask("flows_sum", lambda net, tree, world: flows_sum(tree, net, world), NET, TREES, WORLDS, twoway=True,
            **tree_big(1)),
        Ask("matched_edges", matched_edges, (CUT, no_form()), TREES),
    ]


def nearby_asks():
    few = {"big": {0: SEVEN}, "limit": 7, "twoway": True}
    tie = (3, tie_form())
    other = ([1, 2, 1, 1, 1], WORLDS[1])
    asks = [Ask(function.__name__, function, NET, WORLDS, tie, **few)
            for function in (least_dist, greatest_dist, trees_raised)]
    last = [({1: [3, 2, 4, 0, 2]}, (e.BadNumber, "tie")), ({1: [0, 2, 4, 0, 2], 2: 0}, (e.BadNumber, "tie"))]
    cut_last = [({1: LACKS}, NO_CUT), ({1: Tree.star(4, 1)}, (e.NotACutTree, 1))]
    at = (1, number_form("at", -1, 10 ** 30))

    def by_tree(net, tree, *more):
        return holders_by(tree, net, *more)

    return asks + [
        Ask("trees_lowered", trees_lowered, NET, WORLDS, tie, last=last, **few),
        Ask("common_trees", common_trees, NET, WORLDS, other, **few),
        Ask("holders_by", by_tree, NET, TREES, WORLDS, at, last=cut_last, twoway=True, **tree_big(1)),
        Ask("bears_raises", bears_raises, NET, TREES, ([4, 0], ties_form()), twoway=True),
        Ask("raise_that_breaks", raise_that_breaks, NET, WORLDS, TREES, ([3, 0], ties_form()),
            last=[({2: LACKS}, NO_CUT), ({2: Tree.star(4, 1)}, (e.NotACutTree, 1))], twoway=True, **tree_big(2)),
    ]


def lots_form():
    """Wrong lots of a grove over four places."""
    wrong = [(value, (e.BadLot, -1)) for value in NOT_ROWS + ([], (), [[0], [3, 2]], [[0, 1, 2]])]
    for value in NOT_ROWS + ([], (), [4], [-1], (True,), [None], [2, 2], ["2"]):
        wrong += [([value, [9]], (e.BadLot, 0)), (([0, 1], value, [3, 2, 1]), (e.BadLot, 1))]
    wrong += [([[0, 1], [3], (2, 1)], (e.BadLot, 2)), ([[0, 1, 2, 3], [3]], (e.BadLot, 1))]
    return Form(wrong, ordered=True)


def lot_edges_form():
    """Wrong edges between three lots."""
    wrong = [(value, (e.BadTree, -1)) for value in NOT_ROWS + ([], [(0, 1)], [None] * 3)]
    for value in pairs_wrong(3) + ((2, 2), [0, 2]):
        wrong += [([(2, 0), value], (e.BadTree, 1))]
    return Form(wrong + [([(1, 1), None], (e.BadTree, 0)), ([(0, 3), (0, 0)], (e.BadTree, 0))])


def posts_form():
    """Wrong posts of the edges (0, 2) and (2, 1) between the lots (3), (0, 1) and (2)."""
    wrong = [(value, (e.BadTable, -1)) for value in NOT_ROWS + ([], [(3, 2)], [(3, 2)] * 3)]
    for value in pairs_wrong(4) + ((0, 2), [3, 1], (2, 3)):
        wrong += [([value, None], (e.BadTable, 0))]
    return Form(wrong + [([(3, 2), (1, 2)], (e.BadTable, 1)), (((3, 2), [2, 3]), (e.BadTable, 1))])


def grove_asks():
    lots = ([[3], (1, 0), [2]], lots_form())
    edges = ([(0, 2), [2, 1]], lot_edges_form())
    posts = ([[3, 2], (2, 1)], posts_form())
    last = [({1: Told([9, 9, 4, 6, 2])}, (e.NotServing, (2, 3))), ({1: Told([0, 1, 4, 5, 2])}, (e.NotServing, (3,)))]
    grove = Grove(TWO, TOLD, lots[0], edges[0], posts[0])
    nine = [[0, 4], [1, 5, 6], [2], [3, 7, 8]]
    one, other = (3, place_form("one")), (0, place_form("other"))
    big = {"big": {0: BIG, 2: nine, 3: [(0, 1), (1, 2), (2, 3)], 4: [(0, 1), (1, 2), (2, 3)]},
           "most": {0: EIGHT, 2: [[4], [0], [1], [2], [3, 5, 6, 7]], 3: [(0, 3), (1, 2), (2, 3), (3, 4)],
                    4: [(4, 2), (0, 1), (1, 2), (2, 3)]}}
    return [
        Ask("Grove", Grove, NET, (ZERO, FAMILY[1]), lots, edges, posts, last=last, twoway=True, **big),
        Ask("grove side", grove.side, (1, number_form("at", -1, 2, 10 ** 30))),
        Ask("grove side_list", grove.side_list),
        Ask("grove lot_at", grove.lot_at, (3, place_form("place"))),
        Ask("grove way", grove.way, one, other),
        Ask("grove serving", grove.serving, one, other, later=same_later(0, 1)),
        Ask("grove next_pair", grove.next_pair),
        Ask("grove is_full", grove.is_full),
        Ask("grove told_pairs", lambda: list(grove.told_pairs())),
        Ask("grove words", grove.words),
    ]


def step_asks():
    grove = first_grove(TWO, TOLD)
    parted = refine(grove, 0, 3)
    ring = first_grove(Twoway(3, [(0, 1), (1, 2), (0, 2)]), Listed((1, 1, 2), (2, 1, 1), (1, 2, 1)))
    one, other = (3, place_form("one")), (0, place_form("other"))
    start = (parted, no_form())

    def from_start(net, family, begun):
        return full_grove(net, family, start=begun, last=True)

    return [
        Ask("first_grove", first_grove, NET, FAMILY, big=TOO_BIG, twoway=True),
        Ask("refine", lambda *ends: refine(grove, *ends), one, other, later=same_later(0, 1)),
        Ask("refine parted", lambda begun, *ends: refine(begun, *ends), (grove, no_form()), one, other,
            later=same_later(1, 2) + [({0: parted}, (e.NotOneLot, 3, 0)), ({0: parted, 1: 1, 2: 2}, (e.NotOneLot, 1, 2))]
            + [({0: ring, 1: 2, 2: 0}, (e.NotSettled, 2, 0)), ({0: ring, 1: 1, 2: 2}, (e.NotSettled, 1, 2))]),
        Ask("full_grove", full_grove, NET, FAMILY, big=TOO_BIG, twoway=True),
        Ask("full_grove start", from_start, NET, (TOLD, FAMILY[1]), start,
            later=[({0: Twoway(4, TIES[:4] + [(1, 2)])}, (e.OtherKind,)), ({0: ~TWO}, (e.OtherKind,)),
                   ({0: BIG}, (e.OtherKind,)), ({1: Told([3, 9, 1, 9, 2])}, (e.NotServing, (0, 1)))], twoway=True),
    ] + [Ask(name, call, *[(value, no_form())]) for name, call, value in (
        ("tree_of", tree_of, full_grove(TWO, TOLD)), ("stuck", lambda value: value.next_pair(), parted))] + [
        Ask("matched", matched, (parted, no_form()), (parted, no_form()),
            later=[({1: first_grove(~TWO, TOLD)}, (e.OtherKind,)), ({0: first_grove(TWO, ZERO)}, (e.OtherKind,))]),
        Ask("tree_of parted", tree_of, (full_grove(TWO, TOLD), no_form()),
            later=[({0: grove}, (e.NotFull, 0, 1)), ({0: ring}, (e.NotFull, 0, 1))]),
    ]


def sides_form():
    """Wrong lists of sides."""
    wrong = [(value, (e.BadLot, -1)) for value in NOT_ROWS]
    for value in NOT_ROWS + ([9], [-1], (True,), [None], [2, 2], ["2"]):
        wrong += [([value, [9]], (e.BadLot, 0)), (([0, 1], [], value), (e.BadLot, 2))]
    return Form(wrong)


def worlds_form():
    wrong = [(value, (e.NoWorld,)) for value in NOT_ROWS + ([], ())]
    wrong += [([WORLD, value], (e.BadWorld, -1)) for value in NOT_ROWS + ([], WORLD[1:], WORLD + [0])]
    for value in NOT_INTEGERS + (-1,):
        wrong += [([WORLD, [1, value, 1, 1, 1], None], (e.BadWorld, 1)), (([value] + WORLD[1:],), (e.BadWorld, 0))]
    return Form(wrong)


def split_asks():
    sides = ([[1, 0], [3]], sides_form())
    later = [({2: [[]]}, (e.NotASide,)), ({2: [[3], [0, 1, 2, 3], [3]]}, (e.NotASide,)),
             ({2: [[0, 1], [1, 2]]}, (e.Crossing, 0, 1)), ({2: [[0], [3], [2, 1], [3], [0]]}, (e.Crossing, 0, 4)),
             ({2: [[0], [3, 2], [2, 3]]}, (e.Crossing, 1, 2))]
    last = [({2: [[0, 1], [0, 2, 1], [2]]}, (e.NotPrivate, 2)), ({2: [[1], [3]]}, (e.NotPrivate, 0))]
    cut_last = [({2: LACKS}, NO_CUT), ({2: Tree.star(4, 1)}, (e.NotACutTree, 1))]
    tree_last = {"twoway": True, **tree_big(2)}
    return [
        Ask("one_tree", one_tree, NET, FAMILY, big=TOO_BIG, twoway=True),
        Ask("is_one_tree", is_one_tree, NET, FAMILY, TREES, **tree_last),
        Ask("failing", failing, NET, FAMILY, TREES, **tree_last),
        Ask("middle_tree", middle_tree, NET, FAMILY, big=TOO_BIG, twoway=True),
        Ask("stuck_lot", stuck_lot, NET, FAMILY, big=TOO_BIG, twoway=True),
        Ask("sides_number", sides_number, NET, FAMILY, big=TOO_BIG, twoway=True),
        Ask("parts_number", parts_number, NET, FAMILY, big=TOO_BIG, twoway=True),
        Ask("grove_from", grove_from, NET, KNOWN, sides, later=later, last=last,
            big=TOO_BIG, twoway=True),
        Ask("thinned_tree", thinned_tree, NET, KNOWN, TREES, last=cut_last, **tree_last),
        Ask("thinned_tree backwards", lambda *more: thinned_tree(*more, backwards=True), NET, KNOWN, TREES,
            last=cut_last, **tree_last),
        Ask("common_tree", common_tree, NET, ([WORLD, [3, 2, 4, 2, 2]], worlds_form()), big=TOO_BIG, twoway=True),
    ]


def trees_asks():
    return cut_asks() + nearby_asks() + grove_asks() + step_asks() + split_asks()
