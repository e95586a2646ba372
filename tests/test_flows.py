"""[16], [17], [18], [20], [24], [26], [27]: flows against a counting of all fit sides."""

import unittest

from leastgates.costs import added, cost
from leastgates.errors import BadRow
from leastgates.flows import flow, flow_between, greatest_flow, is_flow_row, row_value
from leastgates.nets import Oneway, Twoway
from leastgates.shapes import behind, merged, shrunk
from tests.support import (all_rows, apart_lots, check_error, counted_cost, counted_flow, counted_gates,
                           counted_is_flow, counted_least, counted_value, fit_lots, rest_of, small_cases, some, subsets)

MOST = 10 ** 30


class Flows(unittest.TestCase):
    def test_flow_is_the_least_cost_of_a_fit_side(self):
        for net, world in small_cases(20, 150):
            for sources, sinks in apart_lots(net.size):
                least = counted_flow(net, world, sources, sinks)
                self.assertEqual(flow(net, list(world), sources[::-1], list(sinks)), least)

    def test_greatest_flow_is_a_flow_row_with_this_value(self):
        for net, world in small_cases(21, 120, ties=9):
            for sources, sinks in apart_lots(net.size):
                row = greatest_flow(net, world, sources, sinks)
                self.assertEqual(len(row), net.many)
                self.assertTrue(counted_is_flow(net, world, sources, sinks, row))
                self.assertEqual(counted_value(net, sources, row), counted_flow(net, world, sources, sinks))

    def test_flows_with_eight_places(self):
        for net, world in small_cases(22, 12, least=8, most=8, ties=40, top=9):
            for sources, sinks in some(22, apart_lots(8), 8):
                row = greatest_flow(net, world, sources, sinks)
                self.assertTrue(counted_is_flow(net, world, sources, sinks, row))
                self.assertEqual(row_value(net, sources, row), counted_flow(net, world, sources, sinks))

    def test_twelve_places_and_forty_ties(self):
        for net, world in small_cases(23, 8, least=12, most=12, ties=40, top=MOST):
            for sources, sinks in (((0,), (11,)), ((3, 1), (0, 2, 7)), ((5,), tuple(range(5))), ((0, 1), (2,))):
                row = greatest_flow(net, world, sources, sinks)
                value = flow(net, world, sources, sinks)
                self.assertTrue(counted_is_flow(net, world, sources, sinks, row))
                self.assertEqual(counted_value(net, sources, row), value)
                free = rest_of(12, sources + sinks)
                lots = (tuple(sorted(sources + more)) for more in some(23, subsets(free), 200))
                self.assertTrue(all(value <= counted_cost(net, world, lot) for lot in lots))

    def test_great_capacities_in_twelve_places(self):
        chain = [(p, p + 1) for p in range(11)]
        net = Oneway(12, chain * 3)
        world = [MOST] * 33
        self.assertEqual(flow(net, world, (0,), (11,)), 3 * MOST)
        self.assertEqual(flow(~net, world, (0,), (11,)), 0)
        world[4] = 1
        self.assertEqual(flow(net, world, (0,), (11,)), 2 * MOST + 1)

    def test_flow_may_have_to_be_led_back(self):
        net = Oneway(4, [(0, 1), (0, 2), (1, 2), (1, 3), (2, 3)])
        self.assertEqual(flow(net, [1, 1, 1, 1, 1], (0,), (3,)), 2)
        self.assertEqual(greatest_flow(net, [1, 1, 1, 1, 1], (0,), (3,)), (1, 1, 0, 1, 1))

    def test_no_ties_loops_same_ends_and_zeros(self):
        for kind in (Oneway, Twoway):
            self.assertEqual(greatest_flow(kind(3, []), [], (0,), (2,)), ())
            self.assertEqual(flow(kind(3, []), (), (0, 1), (2,)), 0)
            net = kind(2, [(0, 0), (0, 1), (0, 1), (1, 1)])
            self.assertEqual(greatest_flow(net, [MOST, 2, 3, 7], (0,), (1,)), (0, 2, 3, 0))
            self.assertEqual(flow(net, [9, 0, 0, 9], (0,), (1,)), 0)
            self.assertEqual(flow(net, [9, 2, 3, 9], (1,), (0,)), 5 if kind is Twoway else 0)
        self.assertEqual(greatest_flow(Twoway(2, [(1, 0)]), (4,), (0,), (1,)), (-4,))

    def test_equal_calls_give_the_same_row(self):
        for net, world in small_cases(24, 30, ties=12):
            for sources, sinks in some(24, apart_lots(net.size), 10):
                row = greatest_flow(net, world, sources, sinks)
                self.assertEqual(row, greatest_flow(net, list(world), list(sources[::-1]), sinks))

    def test_flow_between(self):
        for net, world in small_cases(25, 40):
            for p in range(net.size):
                for q in range(net.size):
                    if p != q:
                        self.assertEqual(flow_between(net, world, p, q), counted_flow(net, world, (p,), (q,)))


class FlowRows(unittest.TestCase):
    def test_is_flow_row_by_its_properties(self):
        for net, world in small_cases(26, 40, most=4, ties=4, top=2):
            rows = all_rows(net, world)
            rows += [tuple(entry + 1 for entry in row) for row in rows[:20]]
            rows += [tuple(entry - 1 for entry in row) for row in rows[:20]]
            for sources, sinks in some(26, apart_lots(net.size), 6):
                for row in rows:
                    told = counted_is_flow(net, world, sources, sinks, row)
                    self.assertIs(is_flow_row(net, world, sources, sinks, list(row)), told)

    def test_each_property_counts(self):
        net = Oneway(4, [(0, 1), (1, 2), (2, 3), (3, 0), (1, 1)])
        world = [2, 2, 2, 2, 2]
        for row, told in (
            ([1, 1, 1, 0, 0], True), ([1, 1, 1, 1, 0], True), ([0] * 5, True), ([2, 2, 2, 0, 0], True),
            ([3, 3, 3, 0, 0], False), ([-1, -1, -1, 0, 0], False), ([1, 1, 1, 0, 1], False), ([1, 0, 0, 0, 0], False),
            ([1, 1, 0, 0, 0], False), ([0, 0, 0, 1, 0], False), ([1, 1, 1, 2, 0], False),
        ):
            self.assertIs(is_flow_row(net, world, (0,), (3,), row), told)
        two = Twoway(2, [(0, 1), (0, 0)])
        self.assertIs(is_flow_row(two, [3, 3], (1,), (0,), [-3, 0]), True)
        for row in ([-4, 0], [1, 0], [-3, 1]):
            self.assertIs(is_flow_row(two, [3, 3], (1,), (0,), row), False)

    def test_row_value(self):
        net = Oneway(3, [(0, 1), (1, 0), (1, 2), (2, 2)])
        self.assertEqual(row_value(net, [0], [5, 3, 9, 9]), 2)
        self.assertEqual(row_value(net, [1], [5, 3, 9, 9]), 7)
        self.assertEqual(row_value(net, [0, 1], (-5, 3, -9, 9)), -9)
        self.assertEqual(row_value(net, [0, 1, 2], (5, 3, 9, 9)), 0)
        for case, _ in small_cases(27, 40):
            row = tuple((-1) ** tie * (tie + 3) for tie in range(case.many))
            for lot in subsets(range(case.size))[1:]:
                self.assertEqual(row_value(case, lot, row), counted_value(case, lot, row))

    def test_value_and_cost(self):
        for net, world in small_cases(28, 40, most=4, ties=4, top=2):
            for sources, sinks in some(28, apart_lots(net.size), 6):
                greatest = flow(net, world, sources, sinks)
                least = counted_least(net, world, sources, sinks)
                for row in all_rows(net, world):
                    if counted_is_flow(net, world, sources, sinks, row):
                        self.check_row(net, world, sources, sinks, row, greatest, least)

    def check_row(self, net, world, sources, sinks, row, greatest, least):
        value = row_value(net, sources, row)
        self.assertLessEqual(value, greatest)
        for side in fit_lots(net.size, sources, sinks):
            equal = value == cost(net, world, side)
            self.assertEqual(equal, value == greatest and side in least)
            if equal:
                for tie in counted_gates(net, side):
                    outward = row[tie] if net.ties[tie][0] in side else -row[tie]
                    self.assertEqual(outward, world[tie])
                for tie, (a, b) in enumerate(net.ties):
                    if net.KIND == "oneway" and a not in side and b in side:
                        self.assertEqual(row[tie], 0)

    def test_the_form_of_a_row_is_wrong_only_by_length_and_entries(self):
        net = Twoway(2, [(0, 1)])
        self.assertIs(is_flow_row(net, [1], (0,), (1,), [MOST]), False)
        check_error(self, lambda: is_flow_row(net, [1], (0,), (1,), [1, 1]), BadRow, -1)
        check_error(self, lambda: row_value(net, (0,), [True]), BadRow, 0)


class FlowsInOtherNets(unittest.TestCase):
    def test_turned(self):
        for net, world in small_cases(29, 40):
            for sources, sinks in apart_lots(net.size):
                self.assertEqual(flow(net, world, sources, sinks), flow(~net, world, sinks, sources))

    def test_merged(self):
        for net, world in small_cases(30, 16, least=4):
            for sources, sinks in apart_lots(net.size):
                free = rest_of(net.size, sources + sinks)
                for p, q in [(a, b) for a in free for b in free if a != b]:
                    moved = [[behind(net.size, (p, q), place) for place in lot] for lot in (sources, sinks)]
                    sides = [lot for lot in fit_lots(net.size, sources, sinks) if (p in lot) == (q in lot)]
                    least = min(counted_cost(net, world, lot) for lot in sides)
                    self.assertEqual(flow(merged(net, p, q), world, *moved), least)
                    self.assertGreaterEqual(least, flow(net, world, sources, sinks))

    def test_flows_behind_shrinking(self):
        for net, world in small_cases(31, 16, least=3):
            for lot in subsets(range(net.size))[1:]:
                for sources, sinks in apart_lots(net.size):
                    if not set(lot) & set(sources + sinks):
                        self.check_shrunk(net, world, lot, sources, sinks)

    def check_shrunk(self, net, world, lot, sources, sinks):
        moved = [[behind(net.size, lot, place) for place in part] for part in (sources, sinks)]
        whole = [side for side in fit_lots(net.size, sources, sinks) if len(set(side) & set(lot)) in (0, len(lot))]
        least = min(counted_cost(net, world, side) for side in whole)
        self.assertEqual(flow(shrunk(net, lot), world, *moved), least)
        kept = any(side in whole for side in counted_least(net, world, sources, sinks))
        self.assertEqual(least == flow(net, world, sources, sinks), kept)

    def test_more_facts(self):
        for net, world in small_cases(32, 40):
            for sources, sinks in apart_lots(net.size):
                pairs = [flow_between(net, world, p, q) for p in sources for q in sinks]
                self.assertGreaterEqual(flow(net, world, sources, sinks), max(pairs))
            if net.KIND == "twoway":
                for p, q in [(a, b) for a in range(net.size) for b in range(net.size) if a != b]:
                    singles = (cost(net, world, (p,)), cost(net, world, (q,)))
                    self.assertLessEqual(flow_between(net, world, p, q), min(singles))

    def test_loops_change_nothing(self):
        for net, world in small_cases(33, 30):
            more = type(net)(net.size, net.ties + ((0, 0),))
            for sources, sinks in apart_lots(net.size):
                self.assertEqual(flow(more, world + (MOST,), sources, sinks), flow(net, world, sources, sinks))

    def test_sums_and_multiples(self):
        for net, u in small_cases(34, 40):
            v = u[::-1]
            for sources, sinks in some(34, apart_lots(net.size), 12):
                here, there = flow(net, u, sources, sinks), flow(net, v, sources, sinks)
                self.assertGreaterEqual(flow(net, added(net, u, v), sources, sinks), here + there)
                shared = set(counted_least(net, u, sources, sinks)) & set(counted_least(net, v, sources, sinks))
                equal = flow(net, added(net, u, v), sources, sinks) == here + there
                self.assertEqual(equal, bool(shared))
                self.assertEqual(flow(net, [5 * c for c in u], sources, sinks), 5 * here)


if __name__ == "__main__":
    unittest.main()
