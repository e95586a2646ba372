"""The calls of the modules for one world, from lots to joining, as a table of asks."""

from leastgates import errors as e
from leastgates.costs import added, cost, spared, spared_apart, world_of
from leastgates.fillings import filling, is_filling, wrong_at
from leastgates.flows import flow, flow_between, greatest_flow, is_flow_row, row_value
from leastgates.gluing import glue, parted
from leastgates.holding import breaking_lot, greatest_held, held_lots, holder_table, holders_of, holds, rectangle
from leastgates.joining import Held
from leastgates.leasts import first_side, fit_sides, is_least, last_side, least_sides, share
from leastgates.leftover import grow_closed, steps_left
from leastgates.lots import all_sides, corners, crosses, lot_of, lots_between
from leastgates.nets import Twoway, check_twoway
from leastgates.raising import by_capacity, raised, sides_behind
from leastgates.shapes import behind, lifted, merged, shrunk
from leastgates.tables import FlowTable, lesser_two
from tests.forms import (BIG, ONE, TABLE, TIES, TWO, WORLD, Ask, ends_later, held_later, listed, lot_form,
                         maybe_place_form, no_form, number_form, place_form, row_form, side_later, size_form,
                         three_later, tie_form, world_form)


def flow_asks():
    net = (TWO, no_form())
    world = (WORLD, world_form())
    sources = ([1, 0], lot_form())
    sinks = ([3], lot_form())
    tie = (0, tie_form())
    row = ([0] * 5, row_form())
    side = ([1, 0], lot_form())
    big = {0: BIG}
    later = ends_later(2)
    return [
        Ask("flow", flow, net, world, sources, sinks, later=later),
        Ask("greatest_flow", greatest_flow, net, world, sources, sinks, later=later),
        Ask("is_flow_row", is_flow_row, net, world, sources, sinks, row, later=later),
        Ask("least_sides", least_sides, net, world, sources, sinks, later=later, big=big),
        Ask("first_side", first_side, net, world, sources, sinks, later=later),
        Ask("last_side", last_side, net, world, sources, sinks, later=later),
        Ask("is_least", is_least, net, world, sources, sinks, side, later=later),
        Ask("steps_left", steps_left, net, world, sources, sinks, row,
            later=later + [({4: [9, 0, 0, 0, 0]}, (e.BadRow, -1))]),
        Ask("by_capacity", by_capacity, net, world, sources, sinks, tie, later=later, big=big),
        Ask("sides_behind", sides_behind, net, world, sources, sinks, tie, later=later, big=big),
        Ask("share", share, net, world, world, sources, sinks, later=ends_later(3), big=big),
        Ask("fit_sides", listed(fit_sides), (4, size_form()), sources, sinks, later=ends_later(1), big={0: 9}),
        Ask("flow_between", flow_between, net, world, (0, place_form("one")), (2, place_form("other")),
            later=[({2: 2, 3: 2}, (e.SamePlace, 2))]),
        Ask("row_value", row_value, net, sources, row, later=[({1: []}, (e.EmptyLot, "sources"))]),
        Ask("raised", raised, net, world, tie, (1, number_form("by", -4, -10 ** 30))),
        Ask("grow_closed", grow_closed, (4, size_form()), ([(0, 1)], no_form()), sources),
    ]


def held_asks():
    net = (TWO, no_form())
    world = (WORLD, world_form())
    holders = ([2, 1], lot_form())
    lot = ([2, 1, 0], lot_form())
    row = ([0] * 5, row_form())
    misses_later = [({2: []}, (e.EmptyLot, "holders")), ({2: [3, 2, 1], 3: [0, 3, 2]}, (e.Meeting, 2))]
    glue_later = [({1: ()}, (e.NotASide,)), ({1: (0, 1, 2, 3)}, (e.NotASide,)),
                  ({2: [0, 1, 1, 2, 0]}, (e.NotAFilling, 2))]
    asks = [
        Ask("holds", holds, net, world, holders, lot, later=held_later(2)),
        Ask("breaking_lot", breaking_lot, net, world, holders, lot, later=held_later(2)),
        Ask("holders_of", holders_of, net, world, lot, later=[({2: []}, (e.EmptyLot, "lot"))]),
        Ask("held_lots", held_lots, net, world, holders, later=[({2: []}, (e.EmptyLot, "holders"))], big={0: BIG}),
        Ask("greatest_held", greatest_held, net, world, holders, ([3], lot_form()), later=misses_later),
        Ask("holder_table", holder_table, net, world, big={0: Twoway(7, TIES)}, limit=7),
        Ask("rectangle", rectangle, net, world, holders, later=side_later(2)),
        Ask("filling", filling, net, world, holders, lot, later=held_later(2)),
        Ask("is_filling", is_filling, net, world, holders, lot, row, later=held_later(2)),
        Ask("wrong_at", wrong_at, net, world, holders, lot, row, later=held_later(2)),
        Ask("Held", Held, net, (WORLD, world_form()), ([1, 2], lot_form()), ([1, 2], lot_form()),
            later=held_later(2) + [({2: [1], 3: [2, 1]}, (e.NotHeld, (1,)))]),
        Ask("glue", glue, net, lot, row, row, later=glue_later),
        Ask("parted", parted, net, lot, row, later=glue_later[:2]),
    ]
    return asks


def lot_asks():
    size = (4, size_form())
    one = ([1, 0], lot_form())
    other = ([2, 1], lot_form())
    return [
        Ask("lot_of", lot_of, size, one),
        Ask("all_sides", listed(lambda n, place: all_sides(n, with_place=place)), size,
            (1, maybe_place_form("with_place", 4)), big={0: 9}),
        Ask("lots_between", listed(lots_between), ([1, 0], lot_form(None)), ([0, 40, 3, 1], lot_form(None)),
            later=[({0: [7, 5, 0]}, (e.NotInside, 5))], big={1: [10, 9, 8, 7, 6, 4, 3, 1, 0]}),
        Ask("corners", corners, size, one, other),
        Ask("crosses", crosses, size, one, other),
    ]


def net_asks():
    one = ([1, 0], lot_form())
    meeting = [({0: [3, 2, 1], 1: [0, 3, 2]}, (e.Meeting, 2))]
    asks = []
    for word, net in (("oneway", ONE), ("twoway", TWO)):
        asks += [
            Ask(word + " gates", net.gates, one),
            Ask(word + " inner", net.inner, one),
            Ask(word + " between", net.between, one, ([3], lot_form()), later=meeting),
            Ask(word + " ends_of", net.ends_of, (2, tie_form())),
        ]
    return asks


def cost_asks():
    net = (TWO, no_form())
    world = (WORLD, world_form())
    one = ([1, 0], lot_form())
    other = ([2, 1], lot_form())
    oneway = [({0: ONE}, (e.NotTwoway,))]
    return [
        Ask("world_of", world_of, net, world),
        Ask("cost", cost, net, world, one),
        Ask("spared", spared, net, world, one, other),
        Ask("spared_apart", spared_apart, net, world, one, other, twoway=True),
        Ask("added", added, net, world, world, world),
        Ask("check_twoway", check_twoway, net, later=oneway),
    ]


def shape_asks():
    net = (TWO, no_form())
    size = (4, size_form())
    lot = ([1, 0], lot_form())
    return [
        Ask("shrunk", shrunk, net, lot, later=[({1: []}, (e.EmptyLot, "lot"))]),
        Ask("behind", behind, size, lot, (2, place_form("place")), later=[({1: []}, (e.EmptyLot, "lot"))]),
        Ask("lifted", lifted, size, lot, ([0, 2], lot_form(3)), later=[({1: [], 2: [4]}, (e.EmptyLot, "lot"))]),
        Ask("merged", merged, net, (0, place_form("one")), (2, place_form("other")),
            later=[({1: 2}, (e.SamePlace, 2))]),
    ]


def table_asks():
    return [
        Ask("FlowTable", FlowTable, (TWO, no_form()), (WORLD, world_form()), twoway=True),
        Ask("table[..]", lambda one, other: TABLE[one, other], (0, place_form("one")), (1, place_form("other"))),
        Ask("numbers", TABLE.numbers),
        Ask("classes", TABLE.classes, (2, number_form("level"))),
        Ask("lesser_two", lesser_two, (TABLE, no_form()), (0, place_form("p")), (1, place_form("q")),
            (2, place_form("r")), later=three_later(1)),
    ]


def world_asks():
    return (lot_asks() + net_asks() + cost_asks() + shape_asks() + flow_asks() + held_asks() + table_asks())
