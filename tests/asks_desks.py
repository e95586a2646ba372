"""The calls of the modules from wholeleast to listings, as a table of asks."""

from leastgates import errors as e
from leastgates.desks import Desk
from leastgates.gluings import cut_family, trees_glued
from leastgates.listings import listing, tie_line
from leastgates.nets import Twoway
from leastgates.papers import (asked, fewest_tree_paper, forced_ties, is_half_paper, is_paper, is_tree_paper,
                               lean_half_paper, lean_tree_paper)
from leastgates.rings import found_ring, forest_tree, is_ring, least_tie, ring_order, ring_tree, ring_worlds
from leastgates.rooms import bears_change, best_room, held_room, rise_that_breaks, room
from leastgates.steps import full_grove
from leastgates.stretches import Stretches
from leastgates.trees import Tree
from leastgates.trials import Trial, tried, tried_loss
from leastgates.wholeleast import is_whole_least, whole_chain, whole_cost, whole_edge, whole_least
from tests.asks_families import LOT, NET, NOT_AMOUNTS, SOME, bounds_form
from tests.asks_pairs import BOUNDS, FAMILY, SINKS, TOO_BIG, WORLDS
from tests.asks_trees import CUT, EIGHT, LACKS, TREES, tree_big
from tests.forms import (EITHER, MOVES, NOT_INTEGERS, NOT_ROWS, PAIRS, STRETCHES, TIES, TOLD, TWO, Ask, Form,
                         ends_later, family_form, held_later, lot_form, no_form, number_form, place_form, same_later,
                         side_later, tie_form, ties_form, world_form)

RING = Twoway(4, TIES[:4])


def unseen_form():
    """Wrong sets of unseen ties: those of ties, and those with the seen tie 1."""
    wrong = []
    for value, (error, at) in ties_form().wrong:
        seen = value.index(1) if isinstance(value, (list, tuple)) and 1 in value else at
        wrong.append((value, (error, min(at, seen))))
    return Form(wrong + [([1], (e.BadTies, 0)), ((0, 4, 1, 4), (e.BadTies, 2)), ([3, 3, 1], (e.BadTies, 1))])


UNSEEN = unseen_form()
# Behind TooMany: worlds of another family, and trees that are no cut trees.
APART = [({2: [3, 2, 5, 1, 9]}, (e.NotInFamily, 2)), ({2: [3, 3, 5, 1, 2]}, (e.NotInFamily, 1))]


def whole_asks():
    tie = (3, Form(tie_form().wrong + [(1, (e.BadTie, "tie"))]))
    return [
        Ask("is_whole_least", is_whole_least, NET, FAMILY, SOME, later=side_later(2), big=TOO_BIG, twoway=True),
        Ask("whole_least", whole_least, NET, FAMILY, big=TOO_BIG, twoway=True),
        Ask("whole_cost", whole_cost, NET, WORLDS, big=TOO_BIG, twoway=True),
        Ask("whole_chain", whole_chain, NET, BOUNDS, tie, big=TOO_BIG, twoway=True),
        Ask("whole_edge", whole_edge, (full_grove(TWO, TOLD), no_form())),
        Ask("cut_family", cut_family, (EITHER, no_form()), (2, number_form("first", -1, 6)),
            (4, number_form("last", -1, 6)), later=[({1: 4, 2: 3}, (e.BadNumber, "last")),
                                                    ({1: 5, 2: 0}, (e.BadNumber, "last"))]),
        Ask("trees_glued", trees_glued, (CUT, no_form()),
            (LACKS, Form([(Tree.star(size, 0), (e.BadNumber, "size")) for size in (10, 11, 12)]))),
    ]


def ring_asks():
    family = (MOVES_ON_RING, family_form(many=5))
    ring = (RING, no_form())
    forest = (Twoway(4, [(0, 1), (1, 0), (2, 2), (3, 1)]), no_form())
    return [
        Ask("is_ring", is_ring, ring, twoway=True),
        Ask("ring_order", ring_order, ring, twoway=True),
        Ask("found_ring", found_ring, ring, twoway=True),
        Ask("least_tie", least_tie, ring, family, twoway=True),
        Ask("ring_tree", ring_tree, ring, (3, tie_form(many=4)), twoway=True),
        Ask("ring_worlds", ring_worlds, NET, (3, number_form("top", 0, *NOT_AMOUNTS)), twoway=True),
        Ask("forest_tree", forest_tree, forest, twoway=True),
    ]


MOVES_ON_RING = type(MOVES)([3, 2, 4, 1], 1)


def room_asks():
    last = [({2: LACKS}, (e.NotACutTree, 2)), ({2: Tree.star(4, 1)}, (e.NotACutTree, 1))]
    change = (2, number_form("change", *NOT_AMOUNTS))
    return [
        Ask("room", room, NET, WORLDS, TREES, last=last, twoway=True, **tree_big(2)),
        Ask("best_room", best_room, NET, WORLDS, big=TOO_BIG, twoway=True),
        Ask("rise_that_breaks", rise_that_breaks, NET, WORLDS, TREES, last=last, twoway=True, **tree_big(2)),
        Ask("bears_change", bears_change, NET, WORLDS, TREES, change, last=last, twoway=True, **tree_big(2)),
        Ask("held_room", held_room, NET, WORLDS, SOME, LOT, later=held_later(2),
            last=[({2: [0], 3: [2, 0]}, (e.NotHeld, (0,)))], big=TOO_BIG),
    ]


def paper_asks():
    ties = ([4, 0], UNSEEN)
    held = held_later(3)
    broken = APART + [({3: [0], 4: [2, 0]}, (e.NotHeld, (0,)))]
    sides = ends_later(3, ("holders", "sinks"))
    least = [({5: [0]}, (e.NotLeast, (0,))), ({5: [3, 2, 1]}, (e.NotLeast, (1, 2, 3))), ({5: []}, (e.NotLeast, ())),
             ({5: [3, 2, 1, 0]}, (e.NotLeast, (0, 1, 2, 3)))]
    no_cut = APART + [({3: LACKS}, (e.NotACutTree, 2)), ({3: Tree.star(4, 1)}, (e.NotACutTree, 1))]
    trees = {"twoway": True, **tree_big(3)}
    half = (NET, BOUNDS, WORLDS, SOME, LOT)
    apart = [({1: world[2]}, error) for world, error in APART]
    return [
        Ask("asked", asked, (STRETCHES, no_form()), WORLDS, ([1, 0], ties_form()), later=apart),
        Ask("is_half_paper", is_half_paper, *half, ties, later=held, last=broken, big=TOO_BIG),
        Ask("lean_half_paper", lean_half_paper, *half, ties, later=held, last=broken, big=TOO_BIG),
        Ask("forced_ties", forced_ties, *half, later=held, last=broken, big=TOO_BIG),
        Ask("is_paper", is_paper, NET, BOUNDS, WORLDS, ([0, 1], lot_form()), SINKS, ([1, 0], lot_form()), ties, later=sides,
            last=APART + least, big=TOO_BIG),
        Ask("is_tree_paper", is_tree_paper, NET, BOUNDS, WORLDS, TREES, ties, last=no_cut, **trees),
        Ask("lean_tree_paper", lean_tree_paper, NET, BOUNDS, WORLDS, TREES, ties, last=no_cut, **trees),
        Ask("fewest_tree_paper", fewest_tree_paper, NET, BOUNDS, WORLDS, TREES, last=no_cut, **trees),
    ]


def fresh():
    """A desk with a lost tie and one deed."""
    desk = Desk(TWO, STRETCHES, lost=[3])
    desk.narrow(2, 2, 4)
    return desk


def deed(name):
    """The method of the name, of a new desk at each call."""
    return lambda *arguments: getattr(fresh(), name)(*arguments)


def desk_asks():
    tie = (0, tie_form())
    high = Form([(value, (e.BadStretch, 0)) for value in NOT_INTEGERS + (-1, 3)])
    low = Form([(value, (e.BadStretch, 0)) for value in NOT_INTEGERS + (-1, 10 ** 30)])
    amount = (4, number_form("amount", 2, 6, *NOT_AMOUNTS))
    ends = [(0, place_form("one")), (3, place_form("other"))]
    lost = (e.IsLost, 3)
    whole = [([2], 0, 3, e.NotInside, 0), ([3, 0, 1], 0, 3, e.Meeting, 3), ([], 0, 3, e.NotInside, 0),
             ([3], 0, 3, e.NotInside, 0), ([2, 0], 3, 3, e.NotInside, 3), ([0], 0, 0, e.Meeting, 0)]
    regret_later = [({0: lot, 1: one, 2: other}, (error, place)) for lot, one, other, error, place in whole]
    return [
        Ask("Desk", lambda net, stretches, ties: Desk(net, stretches, lost=ties), NET, BOUNDS, ([3, 0], ties_form()),
            big={0: EIGHT}, limit=8, twoway=True),
        Ask("desk ask", deed("ask"), tie, amount, later=[({0: 3, 1: 1}, lost)]),
        Ask("desk narrow", deed("narrow"), tie, (4, bounds_form(3, 5)), (5, bounds_form(3, 5)),
            later=[({1: 5, 2: 4}, (e.BadStretch, 0)), ({0: 3, 1: 1, 2: 2}, (e.BadStretch, 3)),
                   ({0: 3, 1: 0, 2: 1}, lost)]),
        Ask("desk reset", deed("reset"), tie, (4, low), (9, high),
            later=[({0: 3, 1: 2, 2: 1}, (e.BadStretch, 3)), ({0: 3, 1: 0, 2: 7}, lost)]),
        Ask("desk lose", deed("lose"), tie, later=[({0: 3}, lost)]),
        Ask("desk find", deed("find"), (3, tie_form()), later=[({0: 0}, (e.NotLost, 0)), ({0: 4}, (e.NotLost, 4))]),
        Ask("desk back", deed("back")),
        Ask("desk is_settled", deed("is_settled"), *ends, later=same_later(0, 1)),
        Ask("desk side_for", deed("side_for"), *ends, later=same_later(0, 1)),
        Ask("desk flow_ends", deed("flow_ends"), *ends, later=same_later(0, 1)),
        Ask("desk regret_of", deed("regret_of"), ([2, 0], lot_form()), *ends, later=regret_later),
        Ask("desk finish", deed("finish"), ([5, 2, 2, 99, 3], world_form()),
            later=[({0: [5, 2, 5, 1, 9]}, (e.NotInFamily, 2)), ({0: [2, 2, 2, 1, 0]}, (e.NotInFamily, 0))]),
    ] + [Ask("desk " + name, deed(name)) for name in ("grove", "many_sides", "tree", "open_pairs", "open_ties")]


def rows_form():
    wrong = [(value, (e.BadRow, -1)) for value in NOT_ROWS]
    for value in NOT_ROWS + ([], ("ask", 1), ("back", 1), ["lost", 1], ("narrow", 1, 2), (1, "lose")):
        wrong += [([value, None], (e.BadRow, 0)), ((("lose", 9), ["back"], value), (e.BadRow, 2))]
    return Form(wrong)


def trial_asks():
    desk = (fresh(), no_form())
    rows = ([("lose", 0), ["ask", 4, 2], ("back",), ["find", 3], ("reset", 3, 1, 9), ["narrow", 3, 2, 2]], rows_form())
    return [
        Ask("Trial", Trial, desk),
        Ask("tried_loss", tried_loss, desk, (0, tie_form()), later=[({1: 3}, (e.IsLost, 3))]),
        Ask("tried", tried, desk, rows, later=[({1: [("lose", 0), ("lose", 0)]}, (e.IsLost, 0)),
                                               ({1: [["back"], ["back"]]}, (e.NothingBack,)),
                                               ({1: [["find", 1], ["lose", True]]}, (e.NotLost, 1)),
                                               ({1: [["lose", True]]}, (e.BadTie, "tie"))]),
        Ask("tie_line", tie_line, desk, (3, tie_form())),
        Ask("listing", listing, desk),
    ]


def desks_asks():
    assert Stretches(PAIRS) == STRETCHES
    return whole_asks() + ring_asks() + room_asks() + paper_asks() + desk_asks() + trial_asks()
