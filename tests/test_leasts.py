"""[16], [19], [20], [21], [24], [26]: least sides against a counting of all sides."""

import types
import unittest

from leastgates import errors as e
from leastgates.costs import added
from leastgates.flows import flow
from leastgates.leasts import first_side, fit_sides, is_least, last_side, least_sides, share
from leastgates.nets import Oneway, Twoway
from leastgates.shapes import behind, lifted, merged, shrunk
from tests.support import (apart_lots, between_amount, check_error, counted_cost, counted_flow, counted_least, fit_lots,
                           less, lies_in, meet, rest_of, small_cases, some, subsets, union)

MOST = 10 ** 30


class LeastSides(unittest.TestCase):
    def test_all_of_them_by_size(self):
        for net, world in small_cases(40, 150):
            for sources, sinks in apart_lots(net.size):
                least = counted_least(net, world, sources, sinks)
                self.assertEqual(least_sides(net, list(world), sources[::-1], list(sinks)), least)

    def test_first_and_last(self):
        for net, world in small_cases(41, 150):
            for sources, sinks in apart_lots(net.size):
                least = counted_least(net, world, sources, sinks)
                self.assertEqual(first_side(net, world, sources, sinks), least[0])
                self.assertEqual(last_side(net, world, sources, sinks), least[-1])
                self.assertTrue(all(lies_in(least[0], side) and lies_in(side, least[-1]) for side in least))

    def test_is_least_for_each_lot(self):
        for net, world in small_cases(42, 60):
            for sources, sinks in some(42, apart_lots(net.size), 20):
                least = counted_least(net, world, sources, sinks)
                for lot in subsets(range(net.size)):
                    self.assertIs(is_least(net, world, sources, sinks, list(lot[::-1])), lot in least)

    def test_is_least_is_false_for_what_is_not_fit(self):
        net = Twoway(3, [])
        for lot in ((), (0, 1, 2), (1,), (2,), (0, 2), (1, 2)):
            self.assertIs(is_least(net, (), [0], [2], lot), False)
        for lot in ((0,), (0, 1)):
            self.assertIs(is_least(net, (), [0], [2], lot), True)

    def test_worlds_of_zeros_and_no_ties(self):
        for kind in (Oneway, Twoway):
            for net in (kind(5, []), kind(5, [(0, 4), (1, 2)])):
                zeros = [0] * net.many
                self.assertEqual(least_sides(net, zeros, [1], [3]), fit_lots(5, (1,), (3,)))
                self.assertEqual(first_side(net, zeros, [1], [3]), (1,))
                self.assertEqual(last_side(net, zeros, [1], [3]), (0, 1, 2, 4))

    def test_two_places(self):
        for kind in (Oneway, Twoway):
            net = kind(2, [(0, 1), (0, 0)])
            self.assertEqual(least_sides(net, [MOST, 1], [1], [0]), [(1,)])
            self.assertEqual((first_side(net, [3, 1], [0], [1]), last_side(net, [3, 1], [0], [1])), ((0,), (0,)))

    def test_eight_places(self):
        for net, world in small_cases(43, 10, least=8, most=8, ties=20, top=2):
            for sources, sinks in some(43, apart_lots(8), 6):
                least = counted_least(net, world, sources, sinks)
                self.assertEqual(least_sides(net, world, sources, sinks), least)
        self.assertEqual(len(least_sides(Twoway(8, []), [], [0], [7])), 64)

    def test_nine_and_twelve_places(self):
        for size in (9, 12):
            net = Oneway(size, [(p, p + 1) for p in range(size - 1)])
            world = [MOST] * (size - 1)
            world[3] = world[5] = 2
            check_error(self, lambda: least_sides(net, world, [0], [size - 1]), e.TooMany, size)
            check_error(self, lambda: share(net, world, world, [0], [size - 1]), e.TooMany, size)
            check_error(self, lambda: next(fit_sides(size, [0], [1])), e.TooMany, size)
            self.assertEqual(first_side(net, world, [0], [size - 1]), (0, 1, 2, 3))
            self.assertEqual(last_side(net, world, [0], [size - 1]), (0, 1, 2, 3, 4, 5))
            self.assertIs(is_least(net, world, [0], [size - 1], [0, 1, 2, 3]), True)
            self.assertIs(is_least(net, world, [0], [size - 1], [0, 1, 2]), False)

    def test_fit_sides(self):
        self.assertEqual(list(fit_sides(4, [1], [2])), [(1,), (0, 1), (1, 3), (0, 1, 3)])
        self.assertIsInstance(fit_sides(3, [0], [1]), types.GeneratorType)
        for size in (2, 3, 5):
            for sources, sinks in apart_lots(size):
                self.assertEqual(list(fit_sides(size, sources[::-1], list(sinks))), fit_lots(size, sources, sinks))

    def test_the_example(self):
        net = Twoway(4, [(0, 1), (1, 2), (2, 3)])
        self.assertEqual(least_sides(net, (2, 3, 2), (0,), (3,)), [(0,), (0, 1, 2)])


class Facts(unittest.TestCase):
    def test_common_and_union_of_least_sides(self):
        for net, world in small_cases(44, 60, top=2):
            for sources, sinks in some(44, apart_lots(net.size), 15):
                least = least_sides(net, world, sources, sinks)
                for one in least:
                    for other in least:
                        self.assertIn(meet(one, other), least)
                        self.assertIn(union(one, other), least)
                        across = between_amount(net, world, less(one, other), less(other, one))
                        self.assertEqual(across, 0)

    def test_turned(self):
        for net, world in small_cases(45, 60, top=2):
            for sources, sinks in apart_lots(net.size):
                turned = [rest_of(net.size, side) for side in least_sides(net, world, sources, sinks)]
                self.assertEqual(sorted(turned), sorted(least_sides(~net, world, sinks, sources)))
                first = first_side(~net, world, sinks, sources)
                self.assertEqual(last_side(net, world, sources, sinks), rest_of(net.size, first))

    def test_more_sources_fewer_sinks(self):
        for net, world in small_cases(46, 40, most=4, top=3):
            lots = apart_lots(net.size)
            ends = {pair: (first_side(net, world, *pair), last_side(net, world, *pair)) for pair in lots}
            for sources, sinks in lots:
                for more, fewer in lots:
                    if lies_in(sources, more) and lies_in(fewer, sinks):
                        self.assertTrue(lies_in(ends[sources, sinks][0], ends[more, fewer][0]))
                        self.assertTrue(lies_in(ends[sources, sinks][1], ends[more, fewer][1]))

    def test_one_source_more(self):
        for net, world in small_cases(47, 60, top=3):
            for sources, sinks in some(47, apart_lots(net.size), 20):
                old = flow(net, world, sources, sinks)
                last = last_side(net, world, sources, sinks)
                for place in rest_of(net.size, sources + sinks):
                    new = flow(net, world, union(sources, (place,)), sinks)
                    self.assertLessEqual(old, new)
                    self.assertEqual(old == new, place in last)

    def test_sums_and_multiples(self):
        for net, u in small_cases(48, 80, top=3):
            v = u[::-1]
            total = added(net, u, v)
            for sources, sinks in some(48, apart_lots(net.size), 15):
                shared = share(net, u, v, sources, sinks)
                told = [side for side in counted_least(net, u, sources, sinks)
                        if side in counted_least(net, v, sources, sinks)]
                self.assertEqual(shared, told)
                whole = counted_flow(net, total, sources, sinks)
                halves = counted_flow(net, u, sources, sinks) + counted_flow(net, v, sources, sinks)
                self.assertEqual(whole == halves, bool(shared))
                if shared:
                    self.assertEqual(least_sides(net, total, sources, sinks), shared)
                tripled = [3 * capacity for capacity in u]
                self.assertEqual(least_sides(net, tripled, sources, sinks), least_sides(net, u, sources, sinks))

    def test_glued(self):
        cases = small_cases(38, 40, most=4, top=2)
        for (net, u), (other, v) in zip(cases, cases[2:]):
            whole = net + other
            for sources, sinks in some(38, apart_lots(net.size), 8):
                more = tuple(range(net.size, whole.size))
                found = least_sides(whole, u + v, sources, sinks)
                for side in least_sides(net, u, sources, sinks):
                    self.assertIn(union(side, more) if net.size - 1 in side else side, found)

    def test_shrunk_and_merged(self):
        for net, world in small_cases(39, 16, least=3, top=3):
            for lot in subsets(range(net.size))[1:]:
                small = merged(net, *lot) if len(lot) == 2 else shrunk(net, lot)
                for sources, sinks in apart_lots(net.size):
                    if not set(lot) & set(sources + sinks):
                        self.check_shrunk(net, world, small, lot, sources, sinks)

    def check_shrunk(self, net, world, small, lot, sources, sinks):
        moved = [[behind(net.size, lot, place) for place in part] for part in (sources, sinks)]
        whole = [side for side in fit_lots(net.size, sources, sinks) if len(set(side) & set(lot)) in (0, len(lot))]
        costs = [counted_cost(net, world, side) for side in whole]
        told = [side for side, own in zip(whole, costs) if own == min(costs)]
        found = [lifted(net.size, lot, side) for side in least_sides(small, world, *moved)]
        self.assertEqual(sorted(found), sorted(told))
        self.assertEqual(lifted(net.size, lot, first_side(small, world, *moved)), told[0])
        self.assertEqual(lifted(net.size, lot, last_side(small, world, *moved)), told[-1])

    def test_loops_change_no_least_side(self):
        for net, world in small_cases(49, 30, top=2):
            more = type(net)(net.size, net.ties + ((0, 0),))
            for sources, sinks in some(49, apart_lots(net.size), 10):
                self.assertEqual(least_sides(more, world + (7,), sources, sinks),
                                 least_sides(net, world, sources, sinks))


if __name__ == "__main__":
    unittest.main()
