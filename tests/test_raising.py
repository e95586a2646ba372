"""[22], [23]: what the capacity of one tie changes."""

import unittest

from leastgates import errors as e
from leastgates.flows import flow
from leastgates.leasts import first_side, last_side, least_sides
from leastgates.nets import Oneway, Twoway
from leastgates.raising import by_capacity, raised, sides_behind
from tests.support import apart_lots, check_error, counted_cost, counted_flow, counted_gates, counted_least
from tests.support import fit_lots, small_cases, some

MOST = 10 ** 30


def with_capacity(world, tie, capacity):
    return world[:tie] + (capacity,) + world[tie + 1:]


class Raised(unittest.TestCase):
    def test_raised(self):
        net = Oneway(2, [(0, 1), (1, 0), (1, 1)])
        self.assertEqual(raised(net, [3, 4, 5], 1, 2), (3, 6, 5))
        self.assertEqual(raised(net, (3, 4, 5), 2, -5), (3, 4, 0))
        self.assertEqual(raised(net, [3, 4, 5], 0, 0), (3, 4, 5))
        self.assertEqual(raised(net, [MOST, 4, 5], 0, MOST), (2 * MOST, 4, 5))

    def test_refused(self):
        net = Oneway(2, [(0, 1), (1, 0)])
        check_error(self, lambda: raised(net, [3, 4], 0, -4), e.BadNumber, "by")
        check_error(self, lambda: raised(net, [3, 4], 2, -9), e.BadTie, "tie")
        check_error(self, lambda: raised(net, [3, -4], 2, True), e.BadWorld, 1)
        check_error(self, lambda: raised(net, [3, 4], 1, True), e.BadNumber, "by")


class OneTie(unittest.TestCase):
    def test_by_capacity_against_a_counting(self):
        for net, world in small_cases(60, 80, top=4):
            for sources, sinks in some(60, apart_lots(net.size), 12):
                fit = fit_lots(net.size, sources, sinks)
                for tie in range(net.many):
                    zero = with_capacity(world, tie, 0)
                    gated = [counted_cost(net, zero, lot) for lot in fit if tie in counted_gates(net, lot)]
                    free = [counted_cost(net, zero, lot) for lot in fit if tie not in counted_gates(net, lot)]
                    found = by_capacity(net, world, sources, sinks, tie)
                    self.assertEqual(found, (min(gated, default=None), min(free, default=None)))
                    self.check_each_capacity(net, world, sources, sinks, tie, found)

    def check_each_capacity(self, net, world, sources, sinks, tie, found):
        a, b = found
        self.assertFalse(a is None and b is None)
        for capacity in range(6):
            ends = [end for end in (None if a is None else a + capacity, b) if end is not None]
            self.assertEqual(flow(net, with_capacity(world, tie, capacity), sources, sinks), min(ends))
        gates = [tie in counted_gates(net, side) for side in counted_least(net, world, sources, sinks)]
        self.assertEqual(any(gates), a is not None and (b is None or a + world[tie] <= b))
        self.assertEqual(all(gates), a is not None and (b is None or a + world[tie] < b))

    def test_none_where_there_is_no_side(self):
        net = Oneway(3, [(0, 2), (2, 0), (1, 1), (0, 1)])
        self.assertEqual(by_capacity(net, [5, 5, 5, 5], [0], [2], 0), (0, None))
        self.assertEqual(by_capacity(net, [5, 5, 5, 5], [0], [2], 1), (None, 5))
        self.assertEqual(by_capacity(net, [5, 5, 5, 5], [0], [2], 2), (None, 5))
        self.assertEqual(by_capacity(net, [5, 5, 5, 5], [0], [2], 3), (5, 5))
        two = Twoway(2, [(0, 1), (1, 0)])
        self.assertEqual(by_capacity(two, [MOST, 7], [0], [1], 1), (MOST, None))

    def test_sides_behind(self):
        for net, world in small_cases(61, 120, top=3):
            for sources, sinks in some(61, apart_lots(net.size), 12):
                old = counted_flow(net, world, sources, sinks)
                for tie in range(net.many):
                    higher = with_capacity(world, tie, world[tie] + 1)
                    grows, sides = sides_behind(net, world, sources, sinks, tie)
                    self.assertIs(grows, counted_flow(net, higher, sources, sinks) > old)
                    self.assertEqual(sides, counted_least(net, higher, sources, sinks))
                    self.check_raise(net, world, sources, sinks, tie, grows, sides)

    def check_raise(self, net, world, sources, sinks, tie, grows, sides):
        old = least_sides(net, world, sources, sinks)
        free = [side for side in old if tie not in counted_gates(net, side)]
        self.assertEqual(grows, not free)
        if not grows:
            self.assertEqual(sides, free)
        else:
            dearer = flow(net, world, sources, sinks) + 1
            fit = fit_lots(net.size, sources, sinks)
            more = [side for side in fit if counted_cost(net, world, side) == dearer
                    and tie not in counted_gates(net, side)]
            self.assertEqual(sorted(sides), sorted(old + more))
        self.assertTrue(set(old) & set(sides))
        a, b = net.ties[tie]
        first, last = first_side(net, world, sources, sinks), last_side(net, world, sources, sinks)
        told = a in first and b not in last
        if net.KIND == "twoway":
            told = told or b in first and a not in last
        self.assertEqual(grows, told)

    def test_eight_places_and_nine(self):
        ties = [(p, p + 1) for p in range(7)]
        world = [3, 2, 2, 4, 2, 5, 6]
        self.assertEqual(by_capacity(Twoway(8, ties), world, [0], [7], 1), (0, 2))
        grows, sides = sides_behind(Twoway(8, ties), world, [0], [7], 1)
        self.assertEqual((grows, sides), (False, [(0, 1, 2), (0, 1, 2, 3, 4)]))
        for call in (by_capacity, sides_behind):
            check_error(self, lambda: call(Oneway(9, ties), world, [0], [7], 1), e.TooMany, 9)

    def test_the_example(self):
        net = Twoway(4, [(0, 1), (1, 2), (2, 3)])
        self.assertEqual(by_capacity(net, (2, 3, 2), (0,), (3,), 0), (0, 2))


if __name__ == "__main__":
    unittest.main()
