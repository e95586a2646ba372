"""[10], [11], [26]: shrunk, glued and merged nets."""

import unittest

from leastgates import errors as e
from leastgates.costs import cost
from leastgates.nets import Oneway, Twoway
from leastgates.shapes import behind, glued, lifted, merged, shrunk
from tests.support import apart_lots, check_error, counted_cost, counted_flow, fit_lots, rest_of, small_cases, subsets


class Shrinking(unittest.TestCase):
    def test_shrunk(self):
        ties = [(0, 1), (1, 3), (3, 1), (2, 2), (2, 3)]
        for kind in (Oneway, Twoway):
            net = shrunk(kind(4, ties), [3, 1])
            self.assertIs(type(net), kind)
            self.assertEqual((net.size, net.ties), (3, ((0, 2), (2, 2), (2, 2), (1, 1), (1, 2))))
            self.assertEqual(shrunk(kind(4, ties), range_lot(4)).ties, ((0, 0),) * 5)
            self.assertEqual(shrunk(kind(4, ties), (0,)).ties, ((3, 0), (0, 2), (2, 0), (1, 1), (1, 2)))

    def test_behind(self):
        self.assertEqual([behind(5, [3, 1], p) for p in range(5)], [0, 3, 1, 3, 2])
        self.assertEqual([behind(3, (0, 1, 2), p) for p in range(3)], [0, 0, 0])
        self.assertEqual([behind(12, [0], p) for p in range(12)], [11] + list(range(11)))

    def test_lifted(self):
        self.assertEqual(lifted(5, [3, 1], [3, 0]), (0, 1, 3))
        self.assertEqual(lifted(5, [3, 1], [2, 1]), (2, 4))
        self.assertEqual((lifted(5, [3, 1], ()), lifted(2, (1, 0), (0,))), ((), (0, 1)))

    def test_ties_keep_their_numbers(self):
        for net, _ in small_cases(11, 40, least=1):
            for lot in subsets(range(net.size))[1:]:
                small = shrunk(net, lot)
                self.assertEqual((small.size, small.many), (net.size - len(lot) + 1, net.many))
                for (a, b), (c, d) in zip(net.ties, small.ties):
                    self.assertEqual((behind(net.size, lot, a), behind(net.size, lot, b)), (c, d))

    def test_costs_of_lifted_lots(self):
        for net, world in small_cases(12, 40, least=1):
            for lot in subsets(range(net.size))[1:]:
                small = shrunk(net, lot)
                for side in subsets(range(small.size)):
                    whole = lifted(net.size, lot, side)
                    self.assertEqual(counted_cost(small, world, side), counted_cost(net, world, whole))
                    told = [p for p in range(net.size) if behind(net.size, lot, p) in side]
                    self.assertEqual(list(whole), told)

    def test_shrinking_twice(self):
        for net, _ in small_cases(13, 30):
            for lot in subsets(range(net.size))[1:]:
                small = shrunk(net, lot)
                for more in subsets(range(small.size)):
                    if small.size - 1 in more:
                        self.assertTrue(shrunk(small, more) == shrunk(net, lifted(net.size, lot, more)))

    def test_lifted_lots_are_told_by_places_of_the_small_net(self):
        check_error(self, lambda: lifted(4, [0, 1], [3]), e.BadLot, 0)
        check_error(self, lambda: lifted(4, [], [4, 5]), e.BadLot, 1)
        check_error(self, lambda: lifted(12, [], [12]), e.EmptyLot, "lot")
        check_error(self, lambda: behind(4, [], 4), e.BadPlace, "place")

    def test_twelve_places(self):
        net = Twoway(12, [(p, (p + 1) % 12) for p in range(12)])
        small = shrunk(net, tuple(range(12))[1:])
        self.assertEqual((small.size, small.ties[0], small.ties[-1]), (2, (0, 1), (1, 0)))


def range_lot(size):
    return list(range(size))


class Gluing(unittest.TestCase):
    def test_glued_is_the_sum_from_the_left(self):
        cases = [net for net, _ in small_cases(14, 40, least=1, most=3) if net.KIND == "twoway"]
        for one, two, three in zip(cases, cases[1:], cases[2:]):
            self.assertTrue(glued(one, two) == one + two)
            self.assertTrue(glued(one, two, three) == (one + two) + three)

    def test_the_errors_of_the_first_sum_that_fails(self):
        one, big = Oneway(7, [(0, 1)] * 30), Oneway(7, [(0, 1)] * 30)
        other = Twoway(2, [])
        check_error(self, lambda: glued(one, other), e.OtherKind)
        check_error(self, lambda: glued(one, big, other), e.BadNumber, "size")
        check_error(self, lambda: glued(one, other, big), e.OtherKind)
        check_error(self, lambda: glued(one, Oneway(2, [(0, 1)] * 11), other), e.BadNet, -1)


class Merging(unittest.TestCase):
    def test_merged(self):
        net = Oneway(4, [(0, 1), (3, 0), (1, 2)])
        self.assertTrue(merged(net, 3, 1) == shrunk(net, (1, 3)))
        self.assertEqual(merged(net, 3, 1).ties, ((0, 2), (2, 0), (2, 1)))
        self.assertEqual(merged(Twoway(2, [(0, 1)]), 0, 1).ties, ((0, 0),))

    def test_flow_in_a_merged_net(self):
        for net, world in small_cases(15, 16, least=4):
            for sources, sinks in apart_lots(net.size):
                free = rest_of(net.size, sources + sinks)
                for p, q in [(a, b) for a in free for b in free if a != b]:
                    made = merged(net, p, q)
                    moved = [tuple(sorted(behind(net.size, (p, q), place) for place in lot))
                             for lot in (sources, sinks)]
                    whole = [lot for lot in fit_lots(net.size, sources, sinks) if (p in lot) == (q in lot)]
                    least = min(cost(net, world, lot) for lot in whole)
                    self.assertEqual(counted_flow(made, world, *moved), least)


if __name__ == "__main__":
    unittest.main()
