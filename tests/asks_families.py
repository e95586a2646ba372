"""The calls of the modules from inside to serving, as a table of asks."""

from leastgates import errors as e
from leastgates.always import always_holders, always_holds, always_lots, broken_in, peeled, peels
from leastgates.changes import Losses, Moves
from leastgates.families import Either, Listed, Told
from leastgates.gaps import alike, cost_ends, dearer_world, never_dearer
from leastgates.inside import inner_flow, made_holder
from leastgates.serving import (Judge, cheaper, is_serving, served, serves, serving_side, serving_sides, settled,
                                settled_pairs)
from leastgates.stretches import Stretches, near, side_high, side_low
from leastgates.thin import is_one_filling, one_filling, thinned
from tests.forms import (BIG, FAMILIES, LISTED, LOSSES, MOVES, EITHER, NOT_INTEGERS, NOT_ROWS, PAIRS, STRETCHES, TOLD,
                         TWO, WORLD, Ask, Form, any_world_form, ends_later, family_form, held_later, listed, lot_form,
                         lot_later, no_form, number_form, place_form, row_form, same_later, side_later,
                         stretches_form, tie_form, ties_form, world_form)

NOT_AMOUNTS = (-1, -10 ** 30)
NET = (TWO, no_form())
LOT = ([2, 1, 0], lot_form())
SOME = ([2, 1], lot_form())


def pairs_form():
    """Wrong pairs of low and high."""
    wrong = [(value, (e.BadStretch, -1)) for value in NOT_ROWS]
    pairs = [1, "01", None, (), [1], (1, 2, 3), (2, 1), (-1, 1), [0, True], (False, 1), (0, None), ("0", 1), (1.0, 2)]
    for pair in pairs:
        wrong += [([pair], (e.BadStretch, 0)), (((0, 0), pair, (2, 1)), (e.BadStretch, 1))]
    return Form(wrong)


def bounds_form(least, most):
    """Wrong lows and highs of the tie 0, whose stretch is 3 to 5."""
    return Form([(value, (e.BadStretch, 0)) for value in NOT_INTEGERS + (least - 1, most + 1, -1, 10 ** 30)])


def inside_asks():
    world = (WORLD, world_form())
    later = [
        ({2: [0, 2, 3], 3: 1, 4: 2}, (e.NotInside, 1)),
        ({2: [1], 3: 1, 4: 2}, (e.NotInside, 2)),
        ({2: [], 3: 3, 4: 2}, (e.NotInside, 3)),
        ({2: [0], 3: 1, 4: 1}, (e.NotInside, 1)),
        ({3: 2, 4: 2}, (e.SamePlace, 2)),
    ]
    return [
        Ask("inner_flow", inner_flow, NET, world, LOT, (1, place_form("one")), (2, place_form("other")), later=later),
        Ask("made_holder", made_holder, NET, ([3, 9, 4, 1, 2], world_form()), LOT, (1, place_form("holder")), (2, place_form("place")),
            later=later + [({1: [1, 1, 9, 1, 0], 2: [2, 1], 3: 1, 4: 2}, (e.NotHeld, (1,)))]),
    ]


def method_asks():
    ties = ([2, 0], ties_form())
    more = ([3, 4], ties_form())
    meeting = [({0: [4, 3, 1], 1: [1, 0, 3]}, (e.Meeting, 1)), ({0: [2], 1: (2,)}, (e.Meeting, 2))]
    asks = []
    for word, family in FAMILIES.items():
        asks += [
            Ask(word + " gap", family.gap, ties, more, later=meeting),
            Ask(word + " gap_world", family.gap_world, ties, more, later=meeting),
            Ask(word + " has", family.has, (WORLD, world_form())),
            Ask(word + " middle", family.middle),
            Ask(word + " worlds", listed(family.worlds)),
            Ask(word + " seen", family.seen),
            Ask(word + " dead", family.dead),
        ]
    return asks


def family_asks():
    world = (WORLD, any_world_form())
    number = (1, number_form("number", *NOT_AMOUNTS))
    others = Form(any_world_form().wrong + [([], (e.OtherSize, 0)), ([1, 2], (e.OtherSize, 2)),
                                            ((0,) * 6, (e.OtherSize, 6))])
    rows = Form([(value, (e.NoWorld,)) for value in NOT_ROWS + ([], ())]
                + [([3], (e.BadWorld, -1)), ([[1, True]], (e.BadWorld, 1)), (([1], [1, 2]), (e.OtherSize, 2)),
                   ([[1], (-1, 0)], (e.BadWorld, 0)), ([[1], [1], ()], (e.OtherSize, 0))])
    return [
        Ask("Told", Told, world),
        Ask("Listed", Listed, world, ([1, 2, 3, 4, 5], others), ([0] * 5, others)),
        Ask("Listed.of_list", Listed.of_list, ([WORLD, WORLD], rows)),
        Ask("Either", Either, (LISTED, no_form()), (MOVES, family_form())),
        Ask("Losses", Losses, world, number),
        Ask("Moves", Moves, world, (1, number_form("change", *NOT_AMOUNTS))),
        Ask("near", near, world, number),
    ]


def stretches_asks():
    ties = ([2, 0], ties_form())
    tie = (0, tie_form())
    world = (WORLD, world_form())
    apart = [({0: [3, 2, 4, 1, 4]}, (e.NotInFamily, 4)), ({0: [2, 2, 4, 1, 4]}, (e.NotInFamily, 0))]
    narrow_later = [({1: 5, 2: 4}, (e.BadStretch, 0)), ({0: 4, 1: 1, 2: 4}, (e.BadStretch, 4)),
                    ({0: 2, 1: 0, 2: 4}, (e.BadStretch, 2))]
    return [
        Ask("Stretches", Stretches, (PAIRS, pairs_form())),
        Ask("Stretches.unknown", Stretches.unknown, (5, number_form("many", *NOT_AMOUNTS)),
            (3, number_form("top", *NOT_AMOUNTS))),
        Ask("Stretches.seen_at", Stretches.seen_at, (WORLD, any_world_form())),
        Ask("unseen", STRETCHES.unseen),
        Ask("opposite", STRETCHES.opposite, world, later=apart),
        Ask("ask", STRETCHES.ask, tie, (4, number_form("amount", 2, 6, -1, 10 ** 30))),
        Ask("narrow", STRETCHES.narrow, tie, (4, bounds_form(3, 5)), (5, bounds_form(3, 5)), later=narrow_later),
        Ask("with_high", STRETCHES.with_high, ties),
        Ask("with_low", STRETCHES.with_low, ties),
        Ask("side_high", side_high, NET, (STRETCHES, stretches_form()), SOME),
        Ask("side_low", side_low, NET, (STRETCHES, stretches_form()), SOME),
    ]


def gap_asks():
    family = (EITHER, family_form())
    other = ([3, 0], lot_form())
    return [
        Ask("never_dearer", never_dearer, NET, family, SOME, other),
        Ask("dearer_world", dearer_world, NET, family, SOME, other),
        Ask("alike", alike, NET, family, SOME, other),
        Ask("cost_ends", cost_ends, NET, family, SOME),
    ]


def always_asks():
    asks = []
    misses = ([3], lot_form())
    peels_later = [({2: []}, (e.EmptyLot, "holders")), ({2: [3, 2, 1], 3: [0, 3, 2]}, (e.Meeting, 2))]
    for word, told in FAMILIES.items():
        family = (told, family_form())
        big = None if word in ("told", "stretches") else {0: BIG}
        asks += [
            Ask(word + " always_holds", always_holds, NET, family, SOME, LOT, later=held_later(2), big=big),
            Ask(word + " broken_in", broken_in, NET, family, SOME, LOT, later=held_later(2), big=big),
            Ask(word + " always_holders", always_holders, NET, family, LOT, later=lot_later(2), big=big),
            Ask(word + " peels", peels, NET, family, SOME, misses, later=peels_later, big=big),
            Ask(word + " peeled", peeled, NET, family, SOME, misses, later=peels_later, big=big),
            Ask(word + " always_lots", always_lots, NET, family, SOME, later=lot_later(2, "holders"), big={0: BIG}),
        ]
    return asks


def thin_asks():
    stretches = (STRETCHES, stretches_form())
    row = one_filling(TWO, STRETCHES, [2, 1], [2, 1, 0])
    entries = (row, row_form())
    later = held_later(2)
    wrong = [({4: [9, 0, 0, 0, 0]}, (e.NotAFilling, -1)), ({5: [3, 2, 0, 2, 2]}, (e.NotInFamily, 2))]
    return [
        Ask("one_filling", one_filling, NET, stretches, SOME, LOT, later=later),
        Ask("is_one_filling", is_one_filling, NET, stretches, SOME, LOT, entries, later=later),
        Ask("thinned", thinned, NET, stretches, SOME, LOT, entries, (WORLD, world_form()), later=later + wrong),
    ]


def fit_later():
    """What is wrong with holders, sinks and a side that must be fit, at the indexes 2 to 4."""
    return ends_later(2, ("holders", "sinks")) + side_later(4) + [
        ({2: [2, 0], 4: [0, 1]}, (e.NotInside, 2)),
        ({2: [1, 0], 3: [3], 4: [2, 3]}, (e.NotInside, 0)),
        ({3: [3, 2], 4: [0, 1, 2]}, (e.Meeting, 2)),
    ]


def serving_asks():
    family = (EITHER, family_form())
    sinks = ([3], lot_form())
    places = [(0, place_form("one")), (3, place_form("other"))]
    later = ends_later(2, ("holders", "sinks"))
    big = {0: BIG}
    asks = [
        Ask("serves", serves, NET, family, SOME, sinks, LOT, later=later, big=big),
        Ask("served", served, NET, family, SOME, later=side_later(2), big=big),
        Ask("is_serving", is_serving, NET, family, SOME, later=side_later(2), big=big),
        Ask("cheaper", cheaper, NET, family, SOME, sinks, LOT, later=fit_later(), big=big),
        Ask("settled", settled, NET, family, *places, later=same_later(2, 3), big=big),
        Ask("Judge", Judge, NET, family, big=big),
        Ask("judge", Judge(TWO, LOSSES), (0, place_form("p")), (3, place_form("q")), later=same_later(0, 1)),
    ]
    for word, told in (("told", TOLD), ("stretches", STRETCHES), ("either", EITHER)):
        family = (told, family_form())
        asks += [
            Ask(word + " serving_side", serving_side, NET, family, SOME, sinks, later=later, big=big),
            Ask(word + " serving_sides", serving_sides, NET, family, SOME, sinks, later=later, big=big),
            Ask(word + " settled_pairs", settled_pairs, NET, family, big=big),
        ]
    return asks


def families_asks():
    return (inside_asks() + family_asks() + method_asks() + stretches_asks() + gap_asks() + always_asks()
            + thin_asks() + serving_asks())
