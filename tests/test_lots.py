"""[1], [2], [5]: lots, sides, corners and their lists."""

import types
import unittest

from leastgates.errors import TooMany
from leastgates.lots import (all_sides, both, common, corners, crosses, lot_of, lots_between, minus, parts, rest)
from tests.support import by_size, check_error, less, lots_from, meet, rest_of, sides_of, subsets, union


class Lots(unittest.TestCase):
    def test_lot_of(self):
        self.assertEqual(lot_of(4, [2, 0, 3]), (0, 2, 3))
        self.assertEqual(lot_of(1, ()), ())
        self.assertEqual(lot_of(12, list(range(11, -1, -1))), tuple(range(12)))

    def test_sums_and_differences(self):
        for one in subsets(range(4)):
            for other in subsets(range(4)):
                turned = list(other[::-1])
                self.assertEqual(both(one[::-1], turned), union(one, other))
                self.assertEqual(common(one[::-1], turned), meet(one, other))
                self.assertEqual(minus(one[::-1], turned), less(one, other))

    def test_places_beyond_a_net(self):
        self.assertEqual(both((40, 8), [0, 16]), (0, 8, 16, 40))
        self.assertEqual(list(lots_between((8,), [0, 16, 8]))[-1], (0, 8, 16))

    def test_rest(self):
        for size in range(1, 6):
            for lot in subsets(range(size)):
                self.assertEqual(rest(size, list(lot[::-1])), rest_of(size, lot))
                self.assertEqual(rest(size, rest(size, lot)), lot)

    def test_parts(self):
        self.assertIs(parts([2, 0], 0, 1), True)
        self.assertIs(parts((0, 2), 1, 2), True)
        self.assertIs(parts((0, 2), 0, 2), False)
        self.assertIs(parts((0, 2), 1, 3), False)
        self.assertIs(parts((0, 2), 0, 0), False)
        self.assertIs(parts((), 0, 1), False)

    def test_all_sides(self):
        self.assertEqual(list(all_sides(3)), [(0,), (1,), (2,), (0, 1), (0, 2), (1, 2)])
        self.assertEqual(list(all_sides(1)), [])
        self.assertEqual(list(all_sides(1, with_place=0)), [])
        for size in range(1, 9):
            self.assertEqual(list(all_sides(size)), sides_of(size))
            self.assertEqual(len(list(all_sides(size))), 2 ** size - 2)
            for place in range(size):
                told = [lot for lot in sides_of(size) if place in lot]
                self.assertEqual(list(all_sides(size, with_place=place)), told)

    def test_generators(self):
        for made in (all_sides(3), all_sides(3, with_place=2), lots_between((), (0,))):
            self.assertIsInstance(made, types.GeneratorType)
        self.assertEqual(next(all_sides(3, with_place=2)), (2,))
        with self.assertRaises(TypeError):
            all_sides(3, 2)

    def test_lots_between(self):
        self.assertEqual(list(lots_between([2], (7, 2, 5))), [(2,), (2, 5), (2, 7), (2, 5, 7)])
        self.assertEqual(list(lots_between((), ())), [()])
        self.assertEqual(list(lots_between([90, 7], [7, 90])), [(7, 90)])
        for outer in subsets(range(5)):
            for inner in subsets(outer):
                found = list(lots_between(inner, outer))
                self.assertEqual(found, lots_from(inner, outer))
                self.assertEqual(len(found), 2 ** (len(outer) - len(inner)))
        self.assertEqual(len(list(lots_between((), list(range(8))))), 256)

    def test_lots_between_counts_the_places_of_outer(self):
        check_error(self, lambda: next(lots_between(tuple(range(9)), tuple(range(9)))), TooMany, 9)
        check_error(self, lambda: next(lots_between((), tuple(range(20)))), TooMany, 20)

    def test_by_size_is_the_order_of_tuples_within_a_size(self):
        found = list(lots_between((), (3, 1, 2)))
        self.assertEqual(found, [(), (1,), (2,), (3,), (1, 2), (1, 3), (2, 3), (1, 2, 3)])
        self.assertEqual(found, by_size(found))

    def test_corners(self):
        for size in (1, 2, 4):
            for one in subsets(range(size)):
                for other in subsets(range(size)):
                    told = (meet(one, other), less(one, other), less(other, one), rest_of(size, union(one, other)))
                    self.assertEqual(corners(size, list(one[::-1]), other), told)
                    self.assertIs(crosses(size, one, list(other[::-1])), all(told))

    def test_crossing_is_crossing_of_the_rests(self):
        for one in subsets(range(5)):
            for other in subsets(range(5)):
                self.assertEqual(crosses(5, one, other), crosses(5, rest(5, one), rest(5, other)))

    def test_corners_with_twelve_places(self):
        one, other = tuple(range(6)), (5, 6, 7)
        self.assertEqual(corners(12, one, other), ((5,), (0, 1, 2, 3, 4), (6, 7), (8, 9, 10, 11)))
        self.assertTrue(crosses(12, one, other))

    def test_the_example(self):
        self.assertEqual(corners(4, [2, 0], (3, 2)), ((2,), (0,), (3,), (1,)))


if __name__ == "__main__":
    unittest.main()
