"""[41]: rows glued and parted at a side."""

import unittest

from leastgates import errors as e
from leastgates.fillings import filling
from leastgates.flows import flow, greatest_flow, row_value
from leastgates.gluing import glue, parted
from leastgates.nets import Oneway, Twoway
from tests.support import (apart_lots, check_error, counted_cost, counted_gates, counted_holds, counted_is_flow,
                           counted_least, counted_wrong, rest_of, sides_of, small_cases, some, subsets)


class Rows(unittest.TestCase):
    def test_entries(self):
        ties = [(0, 1), (1, 2), (2, 1), (2, 3), (1, 1), (3, 3)]
        one = Oneway(4, ties)
        here, there = [1, 2, 3, 4, 5, 6], [7, 2, 9, 10, 11, 12]
        self.assertEqual(glue(one, [1, 0], here, there), (1, 2, 0, 10, 5, 12))
        self.assertEqual(parted(one, [1, 0], here), ((1, 2, 0, 0, 5, 0), (0, 2, 0, 4, 0, 6)))
        two = Twoway(4, ties)
        self.assertEqual(glue(two, [1, 0], here, [7, 2, 3, 10, 11, 12]), (1, 2, 3, 10, 5, 12))
        self.assertEqual(parted(two, [1, 0], here), ((1, 2, 3, 0, 5, 0), (0, 2, 3, 4, 0, 6)))

    def test_entries_by_their_words(self):
        for net, _ in small_cases(120, 40, ties=9):
            row = tuple(tie * (-1) ** tie + 9 for tie in range(net.many))
            for side in sides_of(net.size):
                gates = counted_gates(net, side)
                inside = [tie for tie, (a, b) in enumerate(net.ties) if a in side and b in side]
                outside = [tie for tie, (a, b) in enumerate(net.ties) if a not in side and b not in side]
                here, there = parted(net, side[::-1], list(row))
                for tie in range(net.many):
                    self.assertEqual(here[tie], row[tie] if tie in inside or tie in gates else 0)
                    self.assertEqual(there[tie], row[tie] if tie in outside or tie in gates else 0)
                other = tuple(entry if tie in gates else -7 for tie, entry in enumerate(row))
                whole = glue(net, list(side), row, list(other))
                for tie in range(net.many):
                    told = row[tie] if tie in inside or tie in gates else -7 if tie in outside else 0
                    self.assertEqual(whole[tie], told)
                self.assertEqual(parted(net, side, glue(net, side, here, there)), (here, there))

    def test_the_least_gate_that_differs(self):
        net = Twoway(3, [(0, 0), (0, 1), (0, 2), (2, 1)])
        check_error(self, lambda: glue(net, [0], [9, 5, 6, 7], [8, 5, 1, 0]), e.NotAFilling, 2)
        check_error(self, lambda: glue(net, [0], [9, 5, 6, 7], [8, 4, 1, 0]), e.NotAFilling, 1)
        self.assertEqual(glue(net, [0], [9, 5, 6, 7], [8, 5, 6, 0]), (9, 5, 6, 0))
        one = Oneway(3, [(1, 0), (0, 1)])
        self.assertEqual(glue(one, [0], [1, 2], [5, 2]), (0, 2))
        check_error(self, lambda: glue(one, [0], [1, 2], [1, 3]), e.NotAFilling, 1)

    def test_no_side(self):
        net = Oneway(2, [(0, 1)])
        for lot in ((), (0, 1)):
            check_error(self, lambda: parted(net, lot, [1]), e.NotASide)
            check_error(self, lambda: glue(net, lot, [1], [2]), e.NotASide)
            check_error(self, lambda: glue(net, lot, [1], [None]), e.BadRow, 0)

    def test_capacities_are_not_asked(self):
        net = Oneway(2, [(0, 1), (0, 1)])
        self.assertEqual(glue(net, [0], [-5, 10 ** 40], [-5, 10 ** 40]), (-5, 10 ** 40))


class FlowsAndFillings(unittest.TestCase):
    def test_fillings_glue_to_a_greatest_flow(self):
        for net, world in small_cases(121, 80, most=4):
            for side in sides_of(net.size):
                outside = rest_of(net.size, side)
                for p in subsets(side)[1:]:
                    for q in subsets(outside)[1:]:
                        here, there = filling(net, world, p, side), filling(~net, world, q, outside)
                        self.assertEqual(there is not None, counted_holds(~net, world, q, outside))
                        if here is not None and there is not None:
                            row = glue(net, side, here, there)
                            self.assertTrue(counted_is_flow(net, world, p, q, row))
                            self.assertEqual(row_value(net, p, row), counted_cost(net, world, side))
                            self.assertEqual(row_value(net, p, row), flow(net, world, p, q))

    def test_a_greatest_flow_parts_to_fillings(self):
        for net, world in small_cases(122, 80, top=3):
            for sources, sinks in some(122, apart_lots(net.size), 20):
                row = greatest_flow(net, world, sources, sinks)
                for side in counted_least(net, world, sources, sinks):
                    here, there = parted(net, side, row)
                    outside = rest_of(net.size, side)
                    self.assertIsNone(counted_wrong(net, world, sources, side, here))
                    self.assertIsNone(counted_wrong(~net, world, sinks, outside, there))


if __name__ == "__main__":
    unittest.main()
