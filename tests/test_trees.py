"""[91], [92], [96], [103]: trees, against a counting of their edges."""

import inspect
import unittest
from random import Random

from leastgates import errors as e
from leastgates.nets import Oneway, Twoway
from leastgates.tables import FlowTable
from leastgates.trees import Tree, all_trees
from tests.support import check_error, counted_cost, random_net, some
from tests.woods import (MOST, counted_side, counted_trees, counted_way, joins, random_edges, reached, told_edges,
                         two_cases)


class Trees(unittest.TestCase):
    def test_all_trees_against_a_counting(self):
        for size, many in ((1, 1), (2, 1), (3, 3), (4, 16), (5, 125)):
            found = list(all_trees(size))
            self.assertEqual([tree.edges for tree in found], counted_trees(size))
            self.assertEqual(len(found), many)
            self.assertTrue(all(type(tree) is Tree and tree.size == size for tree in found))
        edges = [tree.edges for tree in all_trees(6)]
        self.assertEqual((len(edges), len(set(edges)), edges), (1296, 1296, sorted(edges)))
        self.assertTrue(inspect.isgeneratorfunction(all_trees))

    def test_too_many_trees(self):
        for size in (7, 8, 12):
            check_error(self, lambda: list(all_trees(size)), e.TooMany, size)
        for size in (0, 13, True, None):
            check_error(self, lambda: next(all_trees(size)), e.BadNumber, "size")

    def test_attributes(self):
        edges = [[3, 1], (0, 1), (2, 3)]
        tree = Tree(4, edges)
        edges[0][0] = 2
        edges.pop()
        self.assertEqual((tree.size, tree.edges, len(tree)), (4, ((0, 1), (1, 3), (2, 3)), 3))
        self.assertEqual((list(tree), [p for p, q in tree]), (list(tree.edges), [0, 1, 2]))
        self.assertIs(type(tree.edges[1]), tuple)

    def test_methods_in_the_body(self):
        for name in ("side", "way", "dist", "neighbours", "costs", "total", "__eq__", "__len__", "__iter__"):
            self.assertIn(name, vars(Tree))
        self.assertIsInstance(vars(Tree)["joins"], staticmethod)
        for name in ("star", "chain"):
            self.assertIsInstance(vars(Tree)[name], classmethod)

    def test_sides_and_ways_against_a_counting(self):
        random = Random(390)
        for size in list(range(1, 9)) + [12] * 2:
            for _ in range(6):
                edges = random_edges(random, size)
                tree = Tree(size, edges)
                told = told_edges(edges)
                self.assertEqual(tree.edges, told)
                for at, (p, q) in enumerate(told):
                    self.assertEqual(tree.side(at), counted_side(size, told, at))
                    self.assertTrue(p in tree.side(at) and q not in tree.side(at))
                for one in range(size):
                    for other in range(size):
                        way = counted_way(size, told, one, other)
                        self.assertEqual(tree.way(one, other), way)
                        self.assertEqual(tree.dist(one, other), len(way))
                        near = (one, other) in told or (other, one) in told
                        self.assertIs(tree.neighbours(one, other), near)

    def test_which_edges_are_a_tree(self):
        pairs = [(0, 1), (1, 0), (1, 2), (2, 2), (3, 1), (0, 3)]
        for first in pairs:
            for second in pairs:
                for third in pairs:
                    edges = [first, second, third]
                    wrong = self.first_wrong(edges)
                    if wrong is None:
                        self.assertTrue(joins(4, Tree(4, edges).edges))
                    else:
                        check_error(self, lambda: Tree(4, edges), e.BadTree, wrong)

    def first_wrong(self, edges):
        for at, (a, b) in enumerate(edges):
            if b in reached(4, edges[:at], a):
                return at
        return None

    def test_errors_of_trees(self):
        check_error(self, lambda: Tree(3, [(0, 1)]), e.BadTree, -1)
        check_error(self, lambda: Tree(3, [(0, 1), (1, 2), (0, 2)]), e.BadTree, -1)
        check_error(self, lambda: Tree(3, [(0, 1), (1, 3)]), e.BadTree, 1)
        check_error(self, lambda: Tree(3, [(0, 0), None]), e.BadTree, 0)
        check_error(self, lambda: Tree(13, None), e.BadNumber, "size")
        check_error(self, lambda: Tree(0, []), e.BadNumber, "size")
        check_error(self, lambda: Tree(1, [(0, 0)]), e.BadTree, -1)
        for tree in (Tree(1, []), Tree(1, ())):
            for at in (0, -1, True, None, "0"):
                check_error(self, lambda: tree.side(at), e.BadNumber, "at")
            self.assertEqual((tree.way(0, 0), tree.dist(0, 0), tree.neighbours(0, 0)), ((), 0, False))

    def test_equal(self):
        tree = Tree(3, [(0, 1), (1, 2)])
        self.assertIs(tree == Tree(3, ((2, 1), [0, 1])), True)
        self.assertIs(tree != Tree(3, ((2, 1), [0, 1])), False)
        for other in (Tree(3, [(0, 1), (0, 2)]), Tree(2, [(0, 1)]), Tree(1, []), ((0, 1), (1, 2)), None, 3, True):
            self.assertIs(tree == other, False)
            self.assertIs(tree != other, True)

    def test_joins(self):
        random = Random(391)
        for _ in range(200):
            size = random.randint(1, 6)
            edges = [(random.randrange(size), random.randrange(size)) for _ in range(random.randint(0, 8))]
            self.assertIs(Tree.joins(size, edges), joins(size, edges))
            self.assertIs(Tree(2, [(0, 1)]).joins(size, tuple(edges)), joins(size, edges))
        self.assertIs(Tree.joins(1, []), True)
        self.assertIs(Tree.joins(2, [(0, 0), (1, 1), (0, 0)]), False)
        self.assertIs(Tree.joins(2, [[1, 0], (0, 1), (0, 0)]), True)
        check_error(self, lambda: Tree.joins(2, [(0, 1), (1, 2)]), e.BadTree, 1)
        check_error(self, lambda: Tree.joins(2, "01"), e.BadTree, -1)

    def test_stars_and_chains(self):
        self.assertEqual(Tree.star(4, 2), Tree(4, [(0, 2), (1, 2), (2, 3)]))
        self.assertEqual(Tree.star(1, 0), Tree(1, []))
        self.assertEqual(Tree.chain([2, 0, 3, 1]), Tree(4, [(0, 2), (0, 3), (1, 3)]))
        self.assertEqual(Tree.chain((0,)), Tree(1, []))
        self.assertEqual(len(Tree.chain(list(range(12))[::-1])), 11)
        for order, at in (([], -1), (list(range(13)), -1), ("01", -1), ([0, 2], 1), ([0, 0], 1), ([1], 0)):
            check_error(self, lambda: Tree.chain(order), e.BadLot, at)
        check_error(self, lambda: Tree.star(4, 4), e.BadPlace, "centre")
        for size in range(1, 13):
            for centre in range(size):
                star = Tree.star(size, centre)
                self.assertTrue(all(star.neighbours(centre, p) for p in range(size) if p != centre))


class Costs(unittest.TestCase):
    def test_against_a_counting(self):
        random = Random(392)
        for net, world in two_cases(392, 60, least=1, most=6, ties=10):
            tree = Tree(net.size, random_edges(random, net.size))
            told = tuple(counted_cost(net, world, tree.side(at)) for at in range(len(tree)))
            self.assertEqual((tree.costs(net, list(world)), tree.total(net, world)), (told, sum(told)))
            by_dist = sum(u * tree.dist(a, b) for u, (a, b) in zip(world, net.ties))
            self.assertEqual(sum(told), by_dist)

    def test_the_least_total(self):
        for net, world in two_cases(393, 25, least=1):
            least = min(tree.total(net, world) for tree in all_trees(net.size))
            self.assertGreaterEqual(least, sum(u for u, (a, b) in zip(world, net.ties) if a != b))
            costs = [counted_cost(net, world, (p,)) for p in range(net.size)]
            self.assertLessEqual(least, sum(costs) - max(costs))
            self.check_stars(net, world, least, costs)

    def check_stars(self, net, world, least, costs):
        table = FlowTable(net, world)
        for centre in range(net.size):
            star = Tree.star(net.size, centre)
            total = star.total(net, world)
            self.assertEqual(total, sum(costs) - costs[centre])
            told = all(table[p, centre] == costs[p] for p in range(net.size) if p != centre)
            self.assertIs(total == least, told)
            if costs[centre] == max(costs):
                self.assertIs(total == least, least == sum(costs) - max(costs))

    def test_ties_that_are_a_web(self):
        random = Random(394)
        for _ in range(60):
            size = random.randint(1, 5)
            edges = random_edges(random, size)
            ties = edges + some(394, edges, 2) + [(0, 0)]
            net = Twoway(size, [pair[::random.choice((1, -1))] for pair in ties])
            world = [random.randint(0, 4) for _ in ties]
            tree = Tree(size, edges)
            least = min(other.total(net, world) for other in all_trees(size))
            whole = sum(u for u, (a, b) in zip(world, net.ties) if a != b)
            self.assertEqual((tree.total(net, world), least), (whole, whole))
            table = FlowTable(net, world)
            self.assertEqual(tree.costs(net, world), tuple(table[p, q] for p, q in tree))

    def test_one_place_and_twelve(self):
        tree = Tree.chain(list(range(12)))
        net = Twoway(12, [(0, 11), (3, 4), (5, 5)])
        self.assertEqual(tree.costs(net, [MOST, 1, 9]), (MOST,) * 3 + (MOST + 1,) + (MOST,) * 7)
        self.assertEqual(tree.total(net, [MOST, 1, 9]), 11 * MOST + 1)
        self.assertEqual((Tree(1, []).costs(Twoway(1, []), []), Tree(1, []).total(Twoway(1, [(0, 0)]), [5])), ((), 0))

    def test_errors(self):
        tree = Tree(3, [(0, 1), (1, 2)])
        for function in (tree.costs, tree.total):
            check_error(self, lambda: function(Oneway(4, []), None), e.NotTwoway)
            check_error(self, lambda: function(Twoway(4, []), None), e.OtherSize, 3)
            check_error(self, lambda: function(Twoway(3, [(0, 1)]), [1, 1]), e.BadWorld, -1)
            check_error(self, lambda: function(Twoway(3, [(0, 1)]), [-1]), e.BadWorld, 0)


class Matched(unittest.TestCase):
    def test_the_edges_of_two_trees_can_be_matched(self):
        random = Random(395)
        for _ in range(150):
            size = random.randint(1, 7)
            one, other = [Tree(size, random_edges(random, size)) for _ in range(2)]
            # For each edge of the other tree: the edges of the one on its way between the two ends.
            ways = [one.way(p, q) for p, q in other]
            self.assertEqual(self.most_matched(ways), size - 1)

    def most_matched(self, ways):
        partners = {}

        def find(at, tried):
            for edge in ways[at]:
                if edge not in tried:
                    tried.add(edge)
                    if edge not in partners or find(partners[edge], tried):
                        partners[edge] = at
                        return True
            return False

        return sum(find(at, set()) for at in range(len(ways)))

    def test_sides_of_a_least_tree_are_matched_by_sides_that_cost_as_much(self):
        random = Random(396)
        for _ in range(40):
            net = random_net(random, random.randint(2, 5), 7, Twoway)
            world = [random.randint(0, 4) for _ in range(7)]
            trees = list(all_trees(net.size))
            cut = min(trees, key=lambda tree: tree.total(net, world))
            for tree in some(396, trees, 10):
                costs = sorted(tree.costs(net, world))
                self.assertTrue(all(a >= b for a, b in zip(costs, sorted(cut.costs(net, world)))))


if __name__ == "__main__":
    unittest.main()
