"""[40], [51]: one filling for all worlds of stretches, and thinned ones."""

import unittest

from leastgates import errors as e
from leastgates.fillings import filling
from leastgates.nets import Oneway, Twoway
from leastgates.stretches import Stretches
from leastgates.thin import is_one_filling, one_filling, thinned
from tests.support import (all_rows, check_error, counted_gates, counted_wrong, is_twoway, less, pairs_inside, some,
                           union)
from tests.worlds import Counted, family_cases

MOST = 10 ** 30


def world_high(net, stretches, lot):
    """X HIGH, by the words of [50]."""
    gates = counted_gates(net, lot)
    return tuple(high if tie in gates else low for tie, (low, high) in enumerate(stretches.pairs))


class OneFilling(unittest.TestCase):
    def test_there_is_one_exactly_if_the_lot_is_always_held(self):
        for net, family, worlds in family_cases(270, 60, words=("stretches",), least=1, ties=7):
            counted = Counted(net, worlds)
            for holders, lot in pairs_inside(net.size):
                row = one_filling(net, family, list(holders[::-1]), lot)
                if counted.holds(holders, lot):
                    self.check_one(net, family, holders, lot, row)
                else:
                    self.assertIsNone(row)

    def check_one(self, net, stretches, holders, lot, row):
        self.assertIs(type(row), tuple)
        self.assertIsNone(counted_wrong(net, world_high(net, stretches, lot), holders, lot, row))
        self.assertIs(is_one_filling(net, stretches, holders, lot[::-1], list(row)), True)
        gates = counted_gates(net, lot)
        for tie, (a, b) in enumerate(net.ties):
            if tie in gates:
                self.assertEqual(abs(row[tie]), stretches.highs[tie])
            elif a in lot and b in lot:
                self.assertLessEqual(abs(row[tie]), stretches.lows[tie])
                self.assertTrue(row[tie] >= 0 or is_twoway(net))

    def test_each_row_is_told(self):
        for net, family, _ in family_cases(271, 12, words=("stretches",), most=3, ties=3, top=2):
            for holders, lot in some(271, pairs_inside(net.size), 8):
                high = world_high(net, family, lot)
                for row in all_rows(net, high)[:200]:
                    for moved in (row, tuple(entry + 1 for entry in row), tuple(-entry for entry in row)):
                        told = counted_wrong(net, high, holders, lot, moved) is None
                        self.assertIs(is_one_filling(net, family, list(holders), lot, moved), told)

    def test_it_joins(self):
        for net, family, _ in family_cases(272, 15, words=("stretches",)):
            held = [pair for pair in pairs_inside(net.size) if one_filling(net, family, *pair) is not None]
            for p, x in some(272, held, 12):
                for r, y in some(273, held, 12):
                    self.assertIsNotNone(one_filling(net, family, union(p, less(r, x)), union(x, y)))


class Thinned(unittest.TestCase):
    def test_in_each_world(self):
        thinner = 0
        for net, family, worlds in family_cases(274, 40, words=("stretches",), least=1, ties=7):
            for holders, lot in pairs_inside(net.size):
                row = one_filling(net, family, holders, lot)
                for world in some(274, worlds, 6) if row is not None else ():
                    found = thinned(net, family, holders[::-1], list(lot), list(row), list(world))
                    self.check_thinned(net, holders, lot, row, world, found)
                    thinner += found != row
        self.assertGreater(thinner, 100)

    def check_thinned(self, net, holders, lot, row, world, found):
        self.assertIs(type(found), tuple)
        self.assertIsNone(counted_wrong(net, world, holders, lot, found))
        for entry, whole in zip(found, row):
            self.assertTrue(0 <= entry <= whole or whole <= entry <= 0)

    def test_of_each_filling_for_all_worlds(self):
        for net, family, worlds in family_cases(275, 12, words=("stretches",), most=3, ties=4, top=2):
            for holders, lot in some(275, pairs_inside(net.size), 8):
                for row in some(275, all_rows(net, world_high(net, family, lot)), 200):
                    if is_one_filling(net, family, holders, lot, row):
                        for world in some(276, worlds, 4):
                            found = thinned(net, family, holders, lot, row, world)
                            self.check_thinned(net, holders, lot, row, world, found)

    def test_a_row_with_a_round_trip(self):
        net = Oneway(4, [(0, 1), (1, 2), (2, 1), (1, 3), (2, 2)])
        stretches = Stretches([(5, 5), (3, 4), (3, 3), (0, 5), (0, 1)])
        row = (5, 2, 2, 5, 0)
        self.assertIs(is_one_filling(net, stretches, [0], [0, 1, 2], row), True)
        for amount in range(6):
            found = thinned(net, stretches, [0], [0, 1, 2], row, (5, 3, 3, amount, 1))
            self.check_thinned(net, (0,), (0, 1, 2), row, (5, 3, 3, amount, 1), found)

    def test_the_whole_net_and_one_place(self):
        net = Twoway(3, [(0, 1), (1, 2)])
        stretches = Stretches([(1, 2), (0, 3)])
        row = one_filling(net, stretches, [1], [0, 1, 2])
        self.assertIs(is_one_filling(net, stretches, [1], [0, 1, 2], [0, 0]), True)
        self.assertIsNone(counted_wrong(net, (1, 0), (1,), (0, 1, 2), row))
        self.assertIsNone(counted_wrong(net, (2, 1), (1,), (0, 1, 2),
                                        thinned(net, stretches, [1], [0, 1, 2], row, [2, 1])))
        self.assertEqual(one_filling(net, stretches, [1], [1]), (-2, 3))
        self.assertEqual(thinned(net, stretches, [1], [1], [-2, 3], [1, 0]), (-1, 0))
        self.assertEqual(one_filling(Oneway(1, []), Stretches([]), [0], [0]), ())

    def test_errors_in_order(self):
        net = Twoway(3, [(0, 1), (1, 2)])
        stretches = Stretches([(1, 2), (0, 3)])
        check_error(self, lambda: thinned(net, stretches, [1], [1], [-2, 2], [9, 9]), e.NotAFilling, -1)
        check_error(self, lambda: thinned(net, stretches, [1], [1], [-2, 3], [2, 9]), e.NotInFamily, 1)
        check_error(self, lambda: thinned(net, stretches, [1], [1], [-2, 3], [0, 9]), e.NotInFamily, 0)
        check_error(self, lambda: thinned(net, stretches, [], [1], [True, 3], [0]), e.BadRow, 0)
        check_error(self, lambda: thinned(net, stretches, [], [1], [2, 3], [0]), e.BadWorld, -1)
        check_error(self, lambda: is_one_filling(net, stretches, [], [1], [2]), e.BadRow, -1)
        self.assertIsNone(one_filling(net, stretches, [0], [0, 1]))

    def test_twelve_places(self):
        net = Twoway(12, [(p, p + 1) for p in range(11)])
        stretches = Stretches([(MOST, MOST)] * 5 + [(0, MOST)] * 6)
        lot = list(range(6))
        row = one_filling(net, stretches, [0], lot)
        self.assertEqual(row, (MOST,) * 6 + (0,) * 5)
        world = [MOST] * 5 + [7] * 6
        self.assertEqual(thinned(net, stretches, [0], lot, row, world), (7,) * 6 + (0,) * 5)

    def test_the_example_is_the_filling_of_the_one_world(self):
        net = Twoway(3, [(0, 1), (0, 2), (1, 2)])
        stretches = Stretches([(3, 5), (1, 2), (0, 1)])
        row = one_filling(net, stretches, (1,), (0, 1))
        self.assertEqual(row, filling(net, (3, 2, 1), (1,), (0, 1)))
        self.assertEqual((row, thinned(net, stretches, (1,), (0, 1), row, (4, 1, 0))), ((-2, 2, 1), (-1, 1, 0)))


if __name__ == "__main__":
    unittest.main()
