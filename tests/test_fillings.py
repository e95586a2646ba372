"""[31], [40]: fillings, each against the four points of [40]."""

import unittest

from leastgates import errors as e
from leastgates.fillings import filling, is_filling, wrong_at
from leastgates.nets import Oneway, Twoway
from tests.support import (all_rows, check_error, counted_holds, counted_wrong, pairs_inside, small_cases, some,
                           subsets)

MOST = 10 ** 30


class Fillings(unittest.TestCase):
    def test_there_is_one_exactly_if_the_lot_is_held(self):
        for net, world in small_cases(110, 150, least=1, ties=9):
            for holders, lot in pairs_inside(net.size):
                row = filling(net, list(world), holders[::-1], list(lot))
                if counted_holds(net, world, holders, lot):
                    self.assertEqual(len(row), net.many)
                    self.assertIsNone(counted_wrong(net, world, holders, lot, row))
                    self.assertIs(is_filling(net, world, holders, lot, row), True)
                    self.assertIsNone(wrong_at(net, world, holders, lot, row))
                else:
                    self.assertIsNone(row)

    def test_wrong_at_for_each_row(self):
        for net, world in small_cases(111, 40, most=4, ties=4, top=2):
            rows = [tuple(entry + by for entry in row) for row in all_rows(net, world)[:60] for by in (0, 1, -1)]
            rows += all_rows(net, world)
            for holders, lot in some(111, pairs_inside(net.size), 8):
                held = counted_holds(net, world, holders, lot)
                found = False
                for row in rows:
                    told = counted_wrong(net, world, holders, lot, row)
                    self.assertEqual(wrong_at(net, world, holders, list(lot), list(row)), told)
                    self.assertIs(is_filling(net, world, holders, lot, row), told is None)
                    found = found or told is None
                self.assertEqual(found, held)

    def test_of_the_whole_net(self):
        for kind in (Oneway, Twoway):
            net = kind(3, [(0, 1), (1, 2), (2, 2)])
            self.assertIs(is_filling(net, [2, 2, 2], [1], [0, 1, 2], [0, 0, 0]), True)
            row = filling(net, [2, 2, 2], [1], [0, 1, 2])
            self.assertIsNone(counted_wrong(net, [2, 2, 2], (1,), (0, 1, 2), row))
            self.assertEqual(wrong_at(net, [2, 2, 2], [1], [0, 1, 2], [0, 0, 1]), ("tie", 2))
        self.assertEqual(filling(Oneway(1, []), [], [0], [0]), ())
        self.assertEqual(filling(Twoway(12, []), [], [11], list(range(12))), ())

    def test_ties_come_ahead_of_places(self):
        net = Oneway(4, [(0, 1), (1, 3), (3, 1), (1, 1), (3, 3), (0, 1)])
        world = [2, 2, 2, 2, 2, 2]
        lot = (0, 1)
        self.assertEqual(wrong_at(net, world, [0], lot, [2, 2, 0, 0, 0, 0]), None)
        self.assertEqual(wrong_at(net, world, [0], lot, [1, 2, 0, 0, 0, 1]), None)
        self.assertEqual(wrong_at(net, world, [0], lot, [1, 2, 0, 0, 0, 0]), ("place", 1))
        self.assertEqual(wrong_at(net, world, [1], lot, [2, 2, 0, 0, 0, 0]), ("place", 0))
        self.assertEqual(wrong_at(net, world, [0], lot, [0, 2, 0, 0, 0, 3]), ("tie", 5))
        self.assertEqual(wrong_at(net, world, [0], lot, [0, 1, 1, 1, 1, 3]), ("tie", 1))
        self.assertEqual(wrong_at(net, world, [0], lot, [0, 2, 2, 1, 1, 3]), ("tie", 2))
        self.assertEqual(wrong_at(net, world, [0], lot, [0, 2, 0, 1, 1, 3]), ("tie", 3))
        self.assertEqual(wrong_at(net, world, [0], lot, [0, 2, 0, 0, 1, 3]), ("tie", 4))
        self.assertEqual(wrong_at(net, world, [0], lot, [-1, 2, 0, 0, 0, 3]), ("tie", 0))

    def test_great_capacities_in_twelve_places(self):
        net = Twoway(12, [(p + 1, p) for p in range(11)])
        world = [MOST - p for p in range(11)]
        row = filling(net, world, [0], list(range(6)))
        self.assertEqual(row, (5 - MOST,) * 6 + (0,) * 5)
        self.assertIs(is_filling(net, world, [0], list(range(6)), row), True)
        self.assertIsNone(filling(net, world, [5], list(range(1, 6))))

    def test_refused(self):
        net = Twoway(3, [(0, 1)])
        check_error(self, lambda: wrong_at(net, [1], [], [0], [1.0]), e.BadRow, 0)
        check_error(self, lambda: is_filling(net, [1], [2], [0], [0]), e.NotInside, 2)

    def test_the_example(self):
        net = Twoway(3, [(0, 1), (0, 2), (1, 2)])
        row = filling(net, (3, 2, 1), (1,), (0, 1))
        self.assertEqual((row, wrong_at(net, (3, 2, 1), (0,), (0, 1), row)), ((-2, 2, 1), ('place', 1)))


class HoldersAreTheWholeLot(unittest.TestCase):
    def test_each_lot_is_filled_from_all_its_places(self):
        for net, world in small_cases(112, 60, least=1):
            for lot in subsets(range(net.size))[1:]:
                row = filling(net, world, lot, lot)
                self.assertIsNone(counted_wrong(net, world, lot, lot, row))


if __name__ == "__main__":
    unittest.main()
