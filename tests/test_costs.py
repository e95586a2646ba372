"""[7], [8], [9]: costs of lots, and nets told by costs."""

import itertools
import unittest

from leastgates.costs import added, amount, cost, net_told, spared, spared_apart, world_of
from leastgates.errors import BadTable
from leastgates.nets import Oneway, Twoway, all_lot
from tests.support import (between_amount, check_error, counted_cost, less, meet, rest_of, small_cases, subsets, union)

MOST = 10 ** 30


class Costs(unittest.TestCase):
    def test_world_of_and_amount(self):
        net = Oneway(2, [(0, 1), (1, 1), (1, 0)])
        self.assertEqual(world_of(net, [4, 0, MOST]), (4, 0, MOST))
        self.assertEqual(world_of(Oneway(2, []), []), ())
        self.assertEqual((amount((4, 5, 7), [2, 0]), amount([4, 5, 7], ())), (11, 0))

    def test_cost(self):
        ties = [(0, 1), (1, 0), (1, 2), (2, 2)]
        world = [3, 4, MOST, 9]
        self.assertEqual([cost(Oneway(3, ties), world, [p]) for p in range(3)], [3, 4 + MOST, 0])
        self.assertEqual([cost(Twoway(3, ties), world, [p]) for p in range(3)], [7, 7 + MOST, MOST])

    def test_cost_by_its_words(self):
        for net, world in small_cases(7, 60, least=1):
            self.assertEqual((cost(net, world, ()), cost(net, world, all_lot(net))), (0, 0))
            for lot in subsets(range(net.size)):
                own = cost(net, list(world), lot[::-1])
                there = rest_of(net.size, lot)
                self.assertEqual(own, counted_cost(net, world, lot))
                self.assertEqual(cost(~net, world, there), own)
                if net.KIND == "twoway":
                    self.assertEqual(cost(net, world, there), own)

    def test_sums_of_worlds(self):
        for net, u in small_cases(8, 40):
            v = tuple(3 * amount_of + 1 for amount_of in u[::-1])
            total = added(net, list(u), v, u)
            self.assertEqual(total, tuple(2 * a + b for a, b in zip(u, v)))
            self.assertEqual(added(net, u), u)
            for lot in subsets(range(net.size)):
                self.assertEqual(cost(net, total, lot), 2 * cost(net, u, lot) + cost(net, v, lot))
                tripled = tuple(3 * capacity for capacity in u)
                self.assertEqual(cost(net, tripled, lot), 3 * cost(net, u, lot))

    def test_sums_may_be_greater(self):
        net = Oneway(2, [(0, 1)])
        total = added(net, [MOST], [MOST], [MOST])
        self.assertEqual((total, cost(net, total, [0])), ((3 * MOST,), 3 * MOST))

    def test_what_two_lots_save(self):
        for net, world in small_cases(9, 40, most=4):
            for one in subsets(range(net.size)):
                for other in subsets(range(net.size)):
                    across = between_amount(net, world, less(one, other), less(other, one))
                    if net.KIND == "twoway":
                        outside = rest_of(net.size, union(one, other))
                        apart = 2 * between_amount(net, world, meet(one, other), outside)
                        self.assertEqual(spared_apart(net, world, one[::-1], other), apart)
                        across *= 2
                    self.assertEqual(spared(net, world, one, list(other)), across)


class NetsFromCosts(unittest.TestCase):
    def test_the_example(self):
        net, world = net_told([4, 3, 5], [5, 3, 4])
        self.assertEqual((net.ties, world), (((0, 1), (0, 2), (1, 2)), (1, 3, 2)))
        self.assertIs(type(net), Twoway)

    def test_numbers_of_a_net_give_its_costs(self):
        for net, world in small_cases(10, 60, least=1, most=6, ties=12):
            if net.KIND == "twoway":
                singles = [cost(net, world, (p,)) for p in range(net.size)]
                pairs = itertools.combinations(range(net.size), 2)
                doubles = tuple(cost(net, world, pair) for pair in pairs)
                made, made_world = net_told(singles, doubles)
                self.assertTrue(all(capacity > 0 for capacity in made_world))
                self.assertEqual(list(made.ties), sorted(set(made.ties)))
                for lot in subsets(range(net.size)):
                    self.assertEqual(cost(made, made_world, lot), cost(net, world, lot))

    def test_bad_exactly_if_no_net_has_these_costs(self):
        told = set()
        for a, b, c in itertools.product(range(5), repeat=3):
            told.add(((a + b, a + c, b + c), (b + c, a + c, a + b)))
        for singles in itertools.product(range(4), repeat=3):
            for doubles in itertools.product(range(4), repeat=3):
                if (singles, doubles) in told:
                    net, world = net_told(singles, doubles)
                    self.assertEqual(tuple(cost(net, world, (p,)) for p in range(3)), singles)
                    self.assertEqual(tuple(cost(net, world, pair) for pair in ((0, 1), (0, 2), (1, 2))), doubles)
                else:
                    with self.assertRaises(BadTable):
                        net_told(singles, doubles)

    def test_one_and_two_places(self):
        net, world = net_told([0], ())
        self.assertEqual((net.size, net.ties, world), (1, (), ()))
        net, world = net_told((5, 5), [0])
        self.assertEqual((net.size, net.ties, world), (2, ((0, 1),), (5,)))
        net, world = net_told([0, 0], [0])
        self.assertEqual((net.size, net.ties, world), (2, (), ()))
        check_error(self, lambda: net_told([1], []), BadTable, -1)
        check_error(self, lambda: net_told([5, 4], [1]), BadTable, -1)
        check_error(self, lambda: net_told([5, 5], [2]), BadTable, -1)
        check_error(self, lambda: net_told([5, 4], [0]), BadTable, 0)

    def test_wrong_values(self):
        for wrong in (True, False, None, "", "00", 0, {}, {0}, range(2), [True, 0], [None, 0], ["0", 0], [0.0, 0]):
            check_error(self, lambda: net_told(wrong, [0]), BadTable, -1)
            check_error(self, lambda: net_told([0, 0], wrong), BadTable, -1)
        for singles, doubles in (([], []), ([0, 0], []), ([0, 0], [0, 0]), ([0] * 13, [0] * 78), ([0] * 3, [0])):
            check_error(self, lambda: net_told(singles, doubles), BadTable, -1)
        net, world = net_told([0] * 12, [0] * 66)
        self.assertEqual((net.size, net.many, world), (12, 0, ()))

    def test_the_least_wrong_pair(self):
        check_error(self, lambda: net_told([1, 1, 0], [3, 0, 0]), BadTable, 0)
        check_error(self, lambda: net_told([1, 1, 0], [0, 0, 5]), BadTable, 1)
        check_error(self, lambda: net_told([1, 1, 0], [0, 1, 3]), BadTable, 2)
        check_error(self, lambda: net_told([-2, 0, 2], [-2, 0, 2]), BadTable, -1)
        check_error(self, lambda: net_told([2, 2, 0], [0, 2, 2.0]), BadTable, -1)
        check_error(self, lambda: net_told([2, 2, 2], [0, 2, 2]), BadTable, -1)

    def test_forty_pairs_and_more(self):
        pairs = list(itertools.combinations(range(10), 2))
        for many in (40, 41, 45):
            world = [1] * many + [0] * (45 - many)
            net = Twoway(10, pairs[:40])
            singles = [sum(c for pair, c in zip(pairs, world) if p in pair) for p in range(10)]
            doubles = [singles[p] + singles[q] - 2 * c for (p, q), c in zip(pairs, world)]
            if many == 40:
                self.assertTrue(net_told(singles, doubles)[0] == net)
            else:
                check_error(self, lambda: net_told(singles, doubles), BadTable, -1)

    def test_great_capacities(self):
        net, world = net_told([2 * MOST, MOST, MOST], [MOST, MOST, 2 * MOST])
        self.assertEqual((net.ties, world), (((0, 1), (0, 2)), (MOST, MOST)))


if __name__ == "__main__":
    unittest.main()
