"""[61], [69], [70], [74]: sides that are least in some world of stretches."""

import unittest

from leastgates import errors as e
from leastgates.holding import rectangle
from leastgates.nets import Oneway, Twoway
from leastgates.possible import is_possible, possible_for, possible_sides
from leastgates.serving import serving_sides
from leastgates.stretches import Stretches, side_low
from tests.support import apart_lots, check_error, rest_of, sides_of, some, subsets, union
from tests.worlds import Counted, family_cases

MOST = 10 ** 30
EXAMPLE = Twoway(5, [(0, 1), (0, 2), (1, 3), (2, 3), (3, 4)])
PAIRS = Stretches([(0, 1), (0, 1), (1, 1), (1, 1), (1, 1)])


def cases(seed, count, **more):
    return family_cases(seed, count, words=("stretches",), **more)


class Possible(unittest.TestCase):
    def test_against_a_counting(self):
        for net, family, worlds in cases(320, 25):
            counted = Counted(net, worlds)
            for holders, sinks in some(320, apart_lots(net.size), 15):
                told = counted.possible(holders, sinks)
                self.assertEqual(possible_sides(net, family, list(holders), sinks[::-1]), told)
                for lot in subsets(range(net.size)):
                    self.assertIs(is_possible(net, family, holders[::-1], list(sinks), lot[::-1]), lot in told)

    def test_possible_for_against_a_counting(self):
        for net, family, worlds in cases(321, 25):
            counted = Counted(net, worlds)
            for side in sides_of(net.size):
                here, there = possible_for(net, family, list(side[::-1]))
                self.assertEqual((here, there), rectangle(net, side_low(net, family, side), side))
                for p in side:
                    for q in rest_of(net.size, side):
                        told = side in counted.possible((p,), (q,))
                        self.assertIs(p in here and q in there, told)

    def test_flows_take_all_integers(self):
        for net, family, worlds in cases(322, 25):
            counted = Counted(net, worlds)
            for holders, sinks in some(322, apart_lots(net.size), 10):
                flows = set(counted.flows(holders, sinks))
                ends = [Counted(net, [world]).flows(holders, sinks)[0] for world in (family.lows, family.highs)]
                self.assertEqual(flows, set(range(ends[0], ends[1] + 1)))

    def test_what_serves_is_possible(self):
        for net, family, _ in cases(323, 20):
            for holders, sinks in some(323, apart_lots(net.size), 10):
                found = possible_sides(net, family, holders, sinks)
                self.assertTrue(all(lot in found for lot in serving_sides(net, family, holders, sinks)))
                self.assertNotEqual(found, [])

    def test_turned(self):
        for net, family, _ in cases(324, 20):
            for holders, sinks in some(324, apart_lots(net.size), 10):
                there = [rest_of(net.size, lot) for lot in possible_sides(~net, family, sinks, holders)]
                self.assertEqual(sorted(there), sorted(possible_sides(net, family, holders, sinks)))

    def test_unions_in_nets_of_at_most_four_places(self):
        for net, family, _ in cases(325, 60, ties=8):
            for holders, sinks in some(325, apart_lots(net.size), 8):
                found = possible_sides(net, family, holders, sinks)
                for x in found:
                    for y in found:
                        self.assertIn(union(x, y), found)

    def test_a_union_that_is_not_possible(self):
        found = possible_sides(EXAMPLE, PAIRS, [0], [4])
        self.assertEqual(found, [(0,), (0, 1), (0, 2), (0, 1, 2, 3)])
        self.assertIs(is_possible(EXAMPLE, PAIRS, [0], [4], [2, 1, 0]), False)

    def test_edges(self):
        for kind in (Oneway, Twoway):
            net = kind(2, [(0, 1), (1, 0), (0, 0)])
            stretches = Stretches([(0, MOST), (0, 0), (1, 2)])
            self.assertEqual(possible_sides(net, stretches, [1], [0]), [(1,)])
            self.assertEqual(possible_for(net, stretches, [0]), ((0,), (1,)))
        net = Oneway(3, [])
        self.assertEqual(possible_sides(net, Stretches([]), [0], [2]), [(0,), (0, 1)])
        self.assertIs(is_possible(net, Stretches([]), [0], [2], [0, 2]), False)
        self.assertIs(is_possible(net, Stretches([]), [0], [2], []), False)
        self.assertIs(is_possible(net, Stretches([]), [0], [2], [0, 1, 2]), False)

    def test_eight_places_and_nine(self):
        for size in (8, 9):
            net = Twoway(size, [(p, p + 1) for p in range(size - 1)])
            stretches = Stretches([(at, MOST) for at in range(size - 1)])
            calls = (lambda: possible_sides(net, stretches, [0], [size - 1]), lambda: possible_for(net, stretches, [0]),
                     lambda: is_possible(net, stretches, [0], [1], [0]))
            for call in calls:
                if size == 8:
                    self.assertTrue(call())
                else:
                    check_error(self, call, e.TooMany, 9)
            if size == 8:
                self.assertEqual(possible_sides(net, stretches, [0], [7]), [tuple(range(k)) for k in range(1, 8)])


if __name__ == "__main__":
    unittest.main()
