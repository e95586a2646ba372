"""[61], [71], [72], [74]: regrets, against a counting of all worlds and all fit sides."""

import unittest

from leastgates import errors as e
from leastgates.always import peeled
from leastgates.changes import Losses, Moves
from leastgates.families import Listed, Told
from leastgates.flows import flow
from leastgates.nets import Oneway, Twoway
from leastgates.regrets import inner_regret, joined_regret, outer_regret, regret, worst_inside
from leastgates.serving import serves, serving_side
from leastgates.stretches import Stretches, side_high
from tests.support import (apart_lots, between_amount, check_error, counted_cost, less, lots_from, pairs_inside,
                           rest_of, some, subsets)
from tests.test_serving import fit_cases
from tests.worlds import Counted, family_cases

MOST = 10 ** 30


class Regrets(unittest.TestCase):
    def test_regret_against_a_counting(self):
        for net, family, worlds in family_cases(330, 8):
            counted = Counted(net, worlds)
            for holders, sinks, lot in fit_cases(330, net, 25):
                told = counted.regret(holders, sinks, lot)
                self.assertEqual(regret(net, family, holders[::-1], list(sinks), list(lot[::-1])), told)

    def test_inner_regret_against_a_counting(self):
        for net, family, worlds in family_cases(331, 8, least=1):
            counted = Counted(net, worlds)
            for holders, lot in pairs_inside(net.size):
                told = counted.inner_regret(holders, lot)
                self.assertEqual(inner_regret(net, family, list(holders), lot[::-1]), told)

    def test_outer_regret_against_a_counting(self):
        for net, family, worlds in family_cases(332, 8, least=1):
            counted = Counted(net, worlds).turned()
            for sinks, others in pairs_inside(net.size):
                side = rest_of(net.size, others)
                told = counted.inner_regret(sinks, others)
                self.assertEqual(outer_regret(net, family, list(sinks), side[::-1]), told)

    def test_what_the_three_say_of_each_other(self):
        for net, family, worlds in family_cases(333, 6):
            for holders, sinks, lot in fit_cases(333, net, 20):
                whole = regret(net, family, holders, sinks, lot)
                inner = inner_regret(net, family, holders, lot)
                outer = outer_regret(net, family, sinks, lot)
                self.assertTrue(0 <= max(inner, outer) <= whole <= inner + outer)
                self.assertIs(whole == 0, serves(net, family, holders, sinks, lot))
                self.assertIs(whole == 0, inner == outer == 0)

    def test_of_the_peeled_lot(self):
        for net, family, _ in family_cases(334, 6):
            for holders, sinks in some(334, apart_lots(net.size), 12):
                lot = peeled(net, family, holders, sinks)
                outer = outer_regret(net, family, sinks, lot)
                self.assertEqual(inner_regret(net, family, holders, lot), 0)
                self.assertEqual(regret(net, family, holders, sinks, lot), outer)
                self.assertIs(outer == 0, serving_side(net, family, holders, sinks) is not None)

    def test_in_the_one_world_of_stretches(self):
        for net, family, _ in family_cases(335, 25, words=("stretches",)):
            for holders, sinks, lot in fit_cases(335, net, 20):
                high = side_high(net, family, lot)
                told = counted_cost(net, high, lot) - flow(net, high, holders, sinks)
                self.assertEqual(regret(net, family, holders, sinks, lot), told)

    def test_turned(self):
        for net, family, _ in family_cases(336, 6):
            for holders, sinks, lot in fit_cases(336, net, 15):
                others = rest_of(net.size, lot)
                self.assertEqual(regret(net, family, holders, sinks, lot), regret(~net, family, sinks, holders, others))
                self.assertEqual(inner_regret(net, family, holders, lot), outer_regret(~net, family, holders, others))
                self.assertEqual(outer_regret(net, family, sinks, lot), inner_regret(~net, family, sinks, others))

    def test_lots_that_are_v_or_empty(self):
        for net, family, _ in family_cases(337, 4, least=1):
            whole = tuple(range(net.size))
            for lot in subsets(whole)[1:]:
                self.assertEqual(inner_regret(net, family, lot, whole), 0)
                self.assertEqual(outer_regret(net, family, lot, ()), 0)


class Worst(unittest.TestCase):
    def test_worst_inside_against_a_counting(self):
        for net, family, _ in family_cases(338, 25, words=("stretches",), least=1):
            for holders, lot in pairs_inside(net.size):
                self.assertEqual(worst_inside(net, family, list(holders), lot[::-1]),
                                 self.worst(net, side_high(net, family, lot), holders, lot))

    def worst(self, net, world, holders, lot):
        lots = lots_from(holders, lot)
        least = min(counted_cost(net, world, inside) for inside in lots)
        return [inside for inside in lots if counted_cost(net, world, inside) == least]

    def test_joined_regret_against_a_counting(self):
        seen = set()
        for net, family, _ in family_cases(339, 40, words=("stretches",), ties=8):
            for holders, sinks, lot in fit_cases(339, net, 20):
                high = side_high(net, family, lot)
                others = rest_of(net.size, lot)
                told = any(between_amount(net, high, less(lot, z), less(others, w)) == 0
                           for z in self.worst(net, high, holders, lot)
                           for w in self.worst(~net, high, sinks, others))
                found = joined_regret(net, family, holders[::-1], list(sinks), list(lot))
                self.assertIs(found, told)
                inner = inner_regret(net, family, holders, lot)
                outer = outer_regret(net, family, sinks, lot)
                self.assertIs(regret(net, family, holders, sinks, lot) == inner + outer, told)
                seen.add((told, inner > 0, outer > 0))
        self.assertTrue({(False, True, True), (True, True, True), (True, False, True)} <= seen)

    def test_of_the_whole_net(self):
        net = Twoway(3, [(0, 1), (1, 2)])
        stretches = Stretches([(0, 1), (1, 2)])
        self.assertEqual(worst_inside(net, stretches, [0], [0, 1, 2]), [(0,), (0, 1, 2)])
        self.assertEqual(worst_inside(net, stretches, [1], [2, 1, 0]), [(1, 2), (0, 1, 2)])


class Edges(unittest.TestCase):
    def test_the_example(self):
        net = Twoway(3, [(0, 1), (1, 2), (0, 2)])
        family = Stretches([(5, 5), (5, 5), (0, 6)])
        found = (regret(net, family, [0], [1], [0]), inner_regret(net, family, [0], [0]),
                 outer_regret(net, family, [1], [0]), joined_regret(net, family, [0], [1], [0]))
        self.assertEqual(found, (1, 0, 1, True))

    def test_great_capacities(self):
        net = Oneway(3, [(0, 1), (1, 2)])
        self.assertEqual(regret(net, Stretches([(0, MOST), (0, MOST)]), [0], [2], [0]), MOST)
        self.assertEqual(regret(net, Moves([MOST, MOST], MOST), [0], [2], [0]), MOST)
        self.assertEqual(regret(net, Losses([MOST, 1], 0), [0], [2], [0]), MOST - 1)
        self.assertEqual(regret(net, Told([1, 1]) | Listed([9, 1]), [0], [2], [0]), 8)

    def test_two_places(self):
        for kind in (Oneway, Twoway):
            net = kind(2, [(0, 1), (1, 0)])
            self.assertEqual(regret(net, Moves([1, 1], 5), [1], [0], [1]), 0)

    def test_eight_places_and_nine(self):
        for size in (8, 9):
            net = Twoway(size, [(p, p + 1) for p in range(size - 1)])
            family = Stretches([(1, MOST)] * (size - 1))
            calls = (lambda: regret(net, family, [0], [1], [0]), lambda: inner_regret(net, family, [0], [0, 2]),
                     lambda: outer_regret(net, family, [0], []), lambda: worst_inside(net, family, [0], [0]),
                     lambda: joined_regret(net, family, [0], [1], [0]))
            for call in calls:
                if size == 8:
                    self.assertIsNotNone(call())
                else:
                    check_error(self, call, e.TooMany, 9)

    def test_order_of_errors(self):
        net, family = Twoway(4, [(0, 1)]), Stretches([(0, 1)])
        for function in (regret, joined_regret):
            check_error(self, lambda: function(net, family, [0, 1], [2], []), e.NotASide)
            check_error(self, lambda: function(net, family, [0, 1], [2], [1, 2]), e.NotInside, 0)
            check_error(self, lambda: function(net, family, [0], [3, 2], [0, 2, 3]), e.Meeting, 2)
            check_error(self, lambda: function(net, family, [0], [0], []), e.Meeting, 0)
        check_error(self, lambda: outer_regret(net, family, [1, 2], [3, 2]), e.Meeting, 2)
        check_error(self, lambda: outer_regret(net, family, [], [4]), e.BadLot, 0)
        check_error(self, lambda: outer_regret(net, family, [1, 2], [0, 1, 2, 3]), e.Meeting, 1)


if __name__ == "__main__":
    unittest.main()
