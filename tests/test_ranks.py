"""[94] to [96], [103], [105]: ranks, flows along edges, and two trees matched."""

import unittest
from itertools import product
from random import Random

from leastgates import errors as e
from leastgates.cuttrees import is_cut_tree, least_total
from leastgates.nets import Twoway
from leastgates.ranks import flows_sum, greatest_tree, matched_edges, ranks, tree_ranks
from leastgates.stretches import Stretches
from leastgates.trees import Tree
from tests.support import check_error, counted_cost, sides_of, some
from tests.woods import MOST, Wood, counted_trees, counted_way, random_edges, two_cases

CASES = two_cases(940, 40, least=1, most=5, ties=8)


class Ranks(unittest.TestCase):
    def test_the_costs_of_all_cut_trees(self):
        for net, world in CASES:
            wood = Wood(net, world)
            found = ranks(net, list(world))
            self.assertIs(type(found), list)
            for edges in counted_trees(net.size):
                costs = sorted(wood.tree_costs(edges))
                self.assertEqual(tree_ranks(Tree(net.size, edges), net, world), costs)
                self.assertTrue(all(cost >= rank for cost, rank in zip(costs, found)))
                self.assertIs(costs == found, wood.first_wrong(edges) is None)

    def test_how_many_are_below_a_number(self):
        for net, world in CASES:
            wood = Wood(net, world)
            found = ranks(net, world)
            for level in range(-2, sum(world) + 2):
                self.assertEqual(sum(1 for rank in found if rank < level), len(wood.classes(level)) - 1)
            levels = range(1, max(found, default=0) + 1)
            self.assertEqual(least_total(net, world), sum(net.size - len(wood.classes(t)) for t in levels))

    def test_the_first_and_the_last(self):
        for net, world in CASES:
            if net.size > 1:
                wood = Wood(net, world)
                found = ranks(net, world)
                self.assertEqual(found[0], min(wood.costs[side] for side in sides_of(net.size)))
                self.assertEqual(found[-1], max(wood.flows.values()))
                self.assertEqual(len(found), net.size - 1)

    def test_few_places_and_many(self):
        self.assertEqual((ranks(Twoway(1, [(0, 0)]), (5,)), tree_ranks(Tree(1, []), Twoway(1, []), ())), ([], []))
        self.assertEqual(ranks(Twoway(2, [(0, 1), (1, 1), (1, 0)]), (MOST, 3, MOST)), [2 * MOST])
        self.assertEqual(ranks(Twoway(8, []), ()), [0] * 7)
        net = Twoway(8, [(p, p + 1) for p in range(7)])
        self.assertEqual(ranks(net, (5, 1, 4, 7, 3, 2, 6)), [1, 2, 3, 4, 5, 6, 7])
        for function in (ranks, greatest_tree):
            check_error(self, lambda: function(Twoway(9, []), ()), e.TooMany, 9)
        for function in (tree_ranks, flows_sum):
            check_error(self, lambda: function(Tree.star(9, 0), Twoway(9, []), ()), e.TooMany, 9)

    def test_over_stretches(self):
        random = Random(941)
        for net, world in two_cases(942, 12, least=2, most=4, ties=5):
            pairs = [(u, u + random.randint(0, 2)) for u in world]
            stretches = Stretches(pairs)
            tables = [ranks(net, told) for told in product(*[range(low, high + 1) for low, high in pairs])]
            lows, highs = ranks(net, stretches.lows), ranks(net, stretches.highs)
            for at in range(net.size - 1):
                self.assertEqual(sorted({table[at] for table in tables}), list(range(lows[at], highs[at] + 1)))
            totals = [sum(table) for table in tables]
            self.assertEqual((min(totals), max(totals)), (sum(lows), sum(highs)))

    def test_one_tie_raised_by_1(self):
        for net, world in CASES:
            for tie in range(net.many):
                more = [u + (at == tie) for at, u in enumerate(world)]
                grown = least_total(net, more) - least_total(net, world)
                steps = [b - a for a, b in zip(ranks(net, world), ranks(net, more))]
                self.assertEqual(sorted(steps), [0] * (net.size - 1 - grown) + [1] * grown)


class FlowsSums(unittest.TestCase):
    def test_against_totals(self):
        for net, world in CASES:
            wood = Wood(net, world)
            least = wood.least()
            for edges in counted_trees(net.size):
                tree = Tree(net.size, edges)
                found = flows_sum(tree, net, world)
                self.assertEqual(found, sum(wood.flows[edge] for edge in edges))
                self.assertLessEqual(found, least)
                self.assertIs(found == wood.total(edges), wood.first_wrong(edges) is None)
                beyond = [cost - wood.flows[edge] for edge, cost in zip(edges, wood.tree_costs(edges))]
                lacks = wood.total(edges) - least
                self.assertTrue(max(beyond, default=0) <= lacks <= sum(beyond))

    def test_the_greatest(self):
        for net, world in CASES:
            wood = Wood(net, world)
            tree = greatest_tree(net, list(world))
            sums = {edges: sum(wood.flows[edge] for edge in edges) for edges in counted_trees(net.size)}
            self.assertIs(type(tree), Tree)
            self.assertEqual(sums[tree.edges], max(sums.values()))
            self.assertEqual(max(sums.values()), least_total(net, world))
            for edges in some(943, sums, 30):
                least_on_way = all(
                    wood.flow(p, q) == min(wood.flows[edges[at]] for at in counted_way(net.size, edges, p, q))
                    for p, q in wood.pairs)
                self.assertIs(sums[edges] == max(sums.values()), least_on_way)

    def test_a_greatest_tree_that_is_no_cut_tree(self):
        net, world = Twoway(4, [(0, 3), (1, 3), (2, 3)]), (1, 1, 1)
        chain = Tree.chain([0, 1, 2, 3])
        self.assertEqual((flows_sum(chain, net, world), least_total(net, world), chain.total(net, world)), (3, 3, 6))
        self.assertFalse(is_cut_tree(net, world, chain))
        self.assertEqual(flows_sum(greatest_tree(net, world), net, world), 3)


class Matched(unittest.TestCase):
    def check(self, one, other, pairs):
        self.assertIs(type(pairs), list)
        self.assertTrue(all(type(pair) is tuple for pair in pairs))
        numbers = list(range(len(one)))
        self.assertEqual([at for at, _ in pairs], numbers)
        self.assertEqual(sorted(at2 for _, at2 in pairs), numbers)
        for at, at2 in pairs:
            self.assertIn(at, counted_way(one.size, one.edges, *other.edges[at2]))

    def test_each_edge_lies_on_the_way_of_its_partner(self):
        random = Random(944)
        for size in list(range(1, 13)) * 8:
            one, other = [Tree(size, random_edges(random, size)) for _ in range(2)]
            self.check(one, other, matched_edges(one, other))
        for size in (1, 2, 12):
            chain = Tree.chain(list(range(size)))
            self.assertEqual(matched_edges(chain, chain), [(at, at) for at in range(size - 1)])
            self.check(chain, Tree.star(size, size - 1), matched_edges(chain, Tree.star(size, size - 1)))

    def test_all_trees_over_four_places(self):
        trees = [Tree(4, edges) for edges in counted_trees(4)]
        for one in trees:
            for other in trees:
                self.check(one, other, matched_edges(one, other))

    def test_what_matched_edges_cost(self):
        random = Random(945)
        for net, world in CASES:
            wood = Wood(net, world)
            for cut in some(946, wood.trees(), 3):
                for _ in range(4):
                    tree = Tree(net.size, random_edges(random, net.size))
                    costs, least = wood.tree_costs(tree.edges), wood.tree_costs(cut)
                    for at, at2 in matched_edges(tree, Tree(net.size, cut)):
                        self.assertGreaterEqual(costs[at], least[at2])

    def test_other_sizes(self):
        check_error(self, lambda: matched_edges(Tree.star(4, 0), Tree.star(3, 0)), e.OtherSize, 3)
        check_error(self, lambda: matched_edges(Tree.star(1, 0), Tree.star(12, 0)), e.OtherSize, 12)


class Costs(unittest.TestCase):
    def test_ranks_and_counted_costs(self):
        for net, world in CASES[:10]:
            for edges in some(947, counted_trees(net.size), 5):
                tree = Tree(net.size, edges)
                told = sorted(counted_cost(net, world, tree.side(at)) for at in range(len(tree)))
                self.assertEqual(tree_ranks(tree, net, world), told)


if __name__ == "__main__":
    unittest.main()
