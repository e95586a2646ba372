"""The calls of the modules from crossing to trees, as a table of asks."""

from leastgates import errors as e
from leastgates.crossing import corner_for, empty_corners, never_cross, oneway_corners
from leastgates.families import Listed
from leastgates.far import far_shrunk, near_pairs, pairs_behind, shrink_row
from leastgates.possible import is_possible, possible_for, possible_sides
from leastgates.regrets import inner_regret, joined_regret, outer_regret, regret, worst_inside
from leastgates.serving import serving_side
from leastgates.solid import always_solid, is_solid, loose_world, moved_off, shown_outside, weak_split
from leastgates.standing import around, around_world, inside_lot, stands
from leastgates.thirds import third, third_flow, third_settled
from leastgates.trees import Tree, all_trees
from tests.asks_families import LOT, NET, NOT_AMOUNTS, SOME, fit_later
from tests.forms import (BIG, EITHER, NOT_INTEGERS, NOT_ROWS, STRETCHES, TOLD, TWO, WORLD, Ask, Form, any_world_form,
                         ends_later, family_form, held_later, listed, lot_form, lot_later, no_form, number_form,
                         pair_form, place_form, same_later, side_later, size_form, stretches_form, three_later,
                         world_form)

SINKS = ([3], lot_form())
FAMILY = (EITHER, family_form())
KNOWN = (TOLD, family_form())
BOUNDS = (STRETCHES, stretches_form())
WORLDS = (WORLD, world_form())
APART = Listed(WORLD, [0, 3, 0, 3, 0])
TREE = Tree(4, [(2, 0), (2, 3), (1, 2)])
TOO_BIG = {0: BIG}


def pair_asks():
    one = (list(serving_side(TWO, TOLD, [0], [2])), lot_form())
    other = (list(serving_side(TWO, TOLD, [1], [3])), lot_form())
    one_pair, other_pair = ([2, 0], pair_form()), ((1, 3), pair_form())
    same = [({3: (1, 1)}, (e.SamePlace, 1)), ({5: [3, 3]}, (e.SamePlace, 3))]
    last = [({2: [2, 0]}, (e.NotServing, (0, 2))), ({2: []}, (e.NotServing, ())),
            ({4: [3, 1, 0]}, (e.NotServing, (0, 1, 3))), ({4: [3, 2, 1, 0]}, (e.NotServing, (0, 1, 2, 3)))]
    later = ends_later(2, ("holders", "sinks"))
    outer = ends_later(2, ("sinks", ""))
    return [
        Ask("corner_for", corner_for, NET, KNOWN, one, one_pair, other, other_pair, later=same, last=last, big=TOO_BIG,
            twoway=True),
        Ask("empty_corners", empty_corners, NET, FAMILY, SOME, LOT, big=TOO_BIG),
        Ask("oneway_corners", oneway_corners, NET, SOME, LOT, big=TOO_BIG),
        Ask("never_cross", never_cross, NET, FAMILY, big=TOO_BIG, twoway=True),
        Ask("is_possible", is_possible, NET, BOUNDS, SOME, SINKS, LOT, later=later, big=TOO_BIG),
        Ask("possible_for", possible_for, NET, BOUNDS, SOME, later=side_later(2), big=TOO_BIG),
        Ask("possible_sides", possible_sides, NET, BOUNDS, SOME, SINKS, later=later, big=TOO_BIG),
        Ask("regret", regret, NET, FAMILY, SOME, SINKS, LOT, later=fit_later(), big=TOO_BIG),
        Ask("inner_regret", inner_regret, NET, FAMILY, SOME, LOT, later=held_later(2), big=TOO_BIG),
        Ask("outer_regret", outer_regret, NET, FAMILY, SINKS, SOME, later=[outer[0], outer[2]], big=TOO_BIG),
        Ask("worst_inside", worst_inside, NET, BOUNDS, SOME, LOT, later=held_later(2), big=TOO_BIG),
        Ask("joined_regret", joined_regret, NET, BOUNDS, SOME, SINKS, LOT, later=fit_later(), big=TOO_BIG),
    ]


def third_asks():
    places = [(0, place_form("p")), (1, place_form("q")), (3, place_form("r"))]
    open_pairs = [({1: APART, 2: 0, 3: 1, 4: 2}, (e.NotSettled, 0, 1)), ({1: APART, 2: 2, 3: 1, 4: 0},
                                                                       (e.NotSettled, 2, 1))]
    return [
        Ask("third", third, NET, KNOWN, *places, later=three_later(2), big=TOO_BIG, twoway=True),
        Ask("third_flow", third_flow, NET, KNOWN, *places, WORLDS, later=three_later(2), last=open_pairs, big=TOO_BIG,
            twoway=True),
        Ask("third_settled", third_settled, NET, KNOWN, *places, later=three_later(2), last=open_pairs, big=TOO_BIG,
            twoway=True),
    ]


def solid_asks():
    whole = ([1, 0, 2], lot_form())
    side = ([3, 1], lot_form())
    no_side = [({3: []}, (e.NotASide,)), ({3: [0, 1]}, (e.NotASide,)), 
               ({2: [3, 2, 1, 0], 3: [1]}, (e.NotASide,))]
    split = [({3: []}, (e.EmptyLot, "split")), ({2: [0, 2], 3: [3, 2, 1]}, (e.NotInside, 1)),
             ({2: [0, 2], 3: [2, 0]}, (e.NotASide,))]
    asks = [
        Ask("weak_split", weak_split, NET, WORLDS, whole, later=lot_later(2), big=TOO_BIG, twoway=True),
        Ask("is_solid", is_solid, NET, WORLDS, whole, later=lot_later(2), big=TOO_BIG, twoway=True),
        Ask("always_solid", always_solid, NET, FAMILY, whole, later=lot_later(2), big=TOO_BIG, twoway=True),
        Ask("loose_world", loose_world, NET, BOUNDS, whole, later=lot_later(2), big=TOO_BIG, twoway=True),
        Ask("moved_off", moved_off, NET, WORLDS, ([1, 0], lot_form()), side, later=lot_later(2) + no_side, big=TOO_BIG,
            twoway=True),
        Ask("shown_outside", shown_outside, NET, WORLDS, whole, ([0, 1], lot_form()), later=lot_later(2) + split,
            big=TOO_BIG, twoway=True),
        Ask("far_shrunk", far_shrunk, NET, SOME, later=side_later(1), big=TOO_BIG, twoway=True),
        Ask("near_pairs", near_pairs, NET, FAMILY, SOME, later=lot_later(2), big=TOO_BIG, twoway=True),
        Ask("pairs_behind", pairs_behind, NET, FAMILY, SOME, later=lot_later(2), big=TOO_BIG, twoway=True),
        Ask("shrink_row", shrink_row, NET, ([[1, 0], [2]], Form([(value, (e.BadTable, -1)) for value in NOT_ROWS])),
            last=shrink_last(), big=TOO_BIG, twoway=True),
    ]
    return asks


def shrink_last():
    """What is wrong in the rows of lots: the first wrong one, each in the net that those ahead of it made."""
    return [({1: [3, []]}, (e.BadLot, -1)), ({1: [[0, 1], [2, 3]]}, (e.BadLot, 1)), ({1: [[0, 1], [], None]},
            (e.EmptyLot, "lot")), ({1: ((0, 1, 2, 3), [1])}, (e.BadLot, 0)), ({1: [[0, 0]]}, (e.BadLot, 1))]


def outside_form(many, places):
    """Wrong ends of gates."""
    wrong = [(value, (e.BadTies, -1)) for value in NOT_ROWS + ([0] * (many - 1), [0] * (many + 1), [], ())]
    for value in NOT_INTEGERS + (-1, places):
        wrong += [([value] + [0] * (many - 1), (e.BadTies, 0)), ((0,) * (many - 1) + (value,), (e.BadTies, many - 1))]
    return Form(wrong)


def more_form(places):
    """Wrong further ties."""
    wrong = [(value, (e.BadTies, -1)) for value in NOT_ROWS + ([(0, 0)] * 41, [None] * 41)]
    for value in NOT_ROWS + ([], [0], (0, 0, 0), (0, places), [-1, 0], [True, 0], (0, None)):
        wrong += [([value, None], (e.BadTies, 0)), (((0, 1), value), (e.BadTies, 1))]
    return Form(wrong)


def around_of(net, lot, places, ends, more):
    """The arguments in the order in which their errors are due."""
    return around(net, lot, ends, more=more, places=places)


def standing_asks():
    places = (2, number_form("places", 10, 10 ** 30, *NOT_AMOUNTS))
    gates = ([0, 1], outside_form(2, 2))
    more = ([[0, 1]], more_form(2))
    return [
        Ask("stands", stands, NET, WORLDS, (0, place_form("place")), LOT,
            later=lot_later(3) + [({2: 0, 3: [1, 2]}, (e.NotInside, 0))], big=TOO_BIG),
        Ask("around", around_of, NET, LOT, places, gates, more, later=[({1: [], 3: []}, (e.EmptyLot, "lot"))],
            big=TOO_BIG),
        Ask("around_world", around_world, NET, LOT, WORLDS, ([1, 2], any_world_form()), later=lot_later(1),
            big=TOO_BIG),
        Ask("inside_lot", inside_lot, (4, size_form()), LOT, later=lot_later(1)),
    ]


def pairs_wrong(places):
    """What is no pair of places."""
    return NOT_ROWS + ([], [0], (0, 1, 2), (0, places), [-1, 1], [True, 0], (0, None), ("0", 1))


def edges_form():
    """Wrong edges over four places."""
    wrong = [(value, (e.BadTree, -1)) for value in NOT_ROWS + ([], [(0, 1), (1, 2)], [None] * 4)]
    for value in pairs_wrong(4) + ((2, 2), [1, 0]):
        wrong += [([(0, 1), value, (2, 3)], (e.BadTree, 1)), (((0, 1), [1, 2], value), (e.BadTree, 2))]
    wrong += [([(1, 1), (0, 1), None], (e.BadTree, 0)), ([(0, 1), (1, 2), (2, 0)], (e.BadTree, 2))]
    return Form(wrong)


def joins_form():
    wrong = [(value, (e.BadTree, -1)) for value in NOT_ROWS]
    for value in pairs_wrong(4):
        wrong += [([value, None], (e.BadTree, 0)), (((0, 0), [1, 2], (0, 1), (1, 0), value), (e.BadTree, 4))]
    return Form(wrong)


def order_form():
    wrong = [(value, (e.BadLot, -1)) for value in NOT_ROWS + ([], (), list(range(13)), [None] * 13)]
    wrong += [([0, value, 0], (e.BadLot, 1)) for value in NOT_INTEGERS + (-1, 3, 0)]
    return Form(wrong + [([1], (e.BadLot, 0)), ((0, 1, 2, 2), (e.BadLot, 3)), ([4, 0, 1, 2], (e.BadLot, 0))])


def tree_asks():
    one, other = (0, place_form("one")), (3, place_form("other"))
    net = (TWO, Form([(net, (e.OtherSize, 4)) for net in (type(TWO)(3, []), type(TWO)(5, [(0, 1)]), BIG)]))
    return [
        Ask("Tree", Tree, (4, size_form()), ([[0, 1], (3, 1), (2, 0)], edges_form())),
        Ask("Tree.joins", Tree.joins, (4, size_form()), ([[0, 1], (3, 1), (2, 0)], joins_form())),
        Ask("Tree.star", Tree.star, (4, size_form()), (2, place_form("centre"))),
        Ask("Tree.chain", Tree.chain, ([3, 0, 2, 1], order_form())),
        Ask("side", TREE.side, (1, number_form("at", -1, 3, 10 ** 30))),
        Ask("way", TREE.way, one, other),
        Ask("dist", TREE.dist, one, other),
        Ask("neighbours", TREE.neighbours, one, other),
        Ask("tree costs", TREE.costs, net, WORLDS, twoway=True),
        Ask("tree total", TREE.total, net, WORLDS, twoway=True),
        Ask("all_trees", listed(all_trees), (4, size_form()), big={0: 7}, limit=7),
    ]


def pairs_asks():
    return pair_asks() + third_asks() + solid_asks() + standing_asks() + tree_asks()
