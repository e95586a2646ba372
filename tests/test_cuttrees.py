"""[91] to [95], [102] to [104]: cut trees, against a counting of all trees and all sides."""

import unittest
from random import Random

from leastgates import errors as e
from leastgates.cuttrees import cheaper_side, cut_tree, cut_trees, flow_on, is_cut_tree, least_total, uncrossed
from leastgates.flows import flow_between
from leastgates.nets import Twoway
from leastgates.shapes import behind, merged, shrunk
from leastgates.tables import FlowTable
from leastgates.trees import Tree
from tests.support import check_error, counted_least, less, parts_pair, random_net, rest_of, sides_of, some, union
from tests.woods import (MOST, Wood, counted_side, counted_trees, counted_way, random_edges, serves_two, settled_two,
                         two_cases, two_families)

CASES = two_cases(910, 45, least=1, most=5, ties=8)


class CutTrees(unittest.TestCase):
    def test_all_cut_trees_against_a_counting(self):
        for net, world in CASES:
            wood = Wood(net, world)
            found = cut_trees(net, list(world))
            told = wood.trees()
            self.assertIs(type(found), list)
            self.assertTrue(all(type(tree) is Tree for tree in found))
            self.assertEqual([tree.edges for tree in found], told)
            self.assertGreaterEqual(len(told), 1)
            self.assertIn(cut_tree(net, world).edges, told)
            # A tree is a cut tree exactly if its total is the least one.
            totals = {edges: wood.total(edges) for edges in counted_trees(net.size)}
            self.assertEqual(least_total(net, world), min(totals.values()))
            self.assertEqual([edges for edges in totals if totals[edges] == min(totals.values())], told)

    def test_which_trees_are_cut_trees_and_what_they_lack(self):
        for net, world in CASES:
            wood = Wood(net, world)
            for edges in some(911, counted_trees(net.size), 40):
                tree = Tree(net.size, edges)
                wrong = wood.first_wrong(edges)
                self.assertIs(is_cut_tree(net, world, tree), wrong is None)
                found = cheaper_side(net, world, tree)
                if wrong is None:
                    self.assertIsNone(found)
                else:
                    p, q = edges[wrong]
                    self.assertEqual((type(found), found[0]), (tuple, wrong))
                    self.assertIn(found[1], counted_least(net, world, (p,), (q,)))
                    self.assertTrue(p in found[1] and q not in found[1])

    def test_greater_nets(self):
        random = Random(912)
        for size in (6, 7, 8) * 6:
            net = random_net(random, size, random.randint(0, 16), Twoway)
            world = [random.randint(0, random.choice((1, 3, MOST))) for _ in net.ties]
            wood = Wood(net, world)
            tree = cut_tree(net, world)
            self.assertIsNone(wood.first_wrong(tree.edges))
            self.assertEqual(least_total(net, world), sum(wood.flows[edge] for edge in tree))
            for _ in range(6):
                edges = Tree(size, random_edges(random, size)).edges
                wrong = wood.first_wrong(edges)
                found = cheaper_side(net, world, Tree(size, edges[::-1]))
                self.assertEqual(None if found is None else found[0], wrong)

    def test_six_places(self):
        random = Random(913)
        for _ in range(3):
            net = random_net(random, 6, random.randint(3, 10), Twoway)
            world = [random.randint(0, 3) for _ in net.ties]
            self.assertEqual([tree.edges for tree in cut_trees(net, world)], Wood(net, world).trees())

    def test_webs_and_no_ties(self):
        self.assertEqual([tree.edges for tree in cut_trees(Twoway(5, []), [])], counted_trees(5))
        net = Twoway(5, [(0, 1), (2, 2), (3, 4), (1, 2)])
        self.assertEqual([tree.edges for tree in cut_trees(net, (0, 9, 0, 0))], counted_trees(5))
        self.assertEqual(len(cut_trees(Twoway(6, [(0, 1)]), (0,))), 1296)
        # A web of equal capacities: each star is a cut tree.
        net = Twoway(5, [(p, q) for p in range(5) for q in range(p)])
        found = cut_trees(net, [MOST] * 10)
        self.assertEqual(found, sorted([Tree.star(5, c) for c in range(5)], key=lambda tree: tree.edges))
        self.assertEqual(least_total(net, [MOST] * 10), 16 * MOST)

    def test_one_place_and_two(self):
        for net in (Twoway(1, []), Twoway(1, [(0, 0), (0, 0)])):
            world = [MOST] * net.many
            self.assertEqual((cut_tree(net, world), cut_trees(net, world)), (Tree(1, []), [Tree(1, [])]))
            self.assertEqual((least_total(net, world), is_cut_tree(net, world, Tree(1, []))), (0, True))
            self.assertIsNone(cheaper_side(net, world, Tree(1, [])))
        net = Twoway(2, [(1, 0), (0, 0), (0, 1)])
        self.assertEqual((cut_trees(net, [3, MOST, 4]), least_total(net, [3, MOST, 4])), ([Tree(2, [(0, 1)])], 7))
        self.assertEqual(flow_on(Tree(2, [(0, 1)]), net, [3, MOST, 4], 1, 0), 7)

    def test_flows_on_trees(self):
        random = Random(914)
        for net, world in CASES:
            wood = Wood(net, world)
            for edges in some(915, counted_trees(net.size), 12) + wood.trees()[:3]:
                tree = Tree(net.size, edges)
                costs = wood.tree_costs(edges)
                equal = True
                for p, q in wood.pairs:
                    told = min(costs[at] for at in counted_way(net.size, edges, p, q))
                    one, other = random.choice(((p, q), (q, p)))
                    self.assertEqual(flow_on(tree, net, world, one, other), told)
                    self.assertGreaterEqual(told, wood.flow(p, q))
                    equal = equal and told == wood.flow(p, q)
                self.assertIs(equal, wood.first_wrong(edges) is None)

    def test_errors(self):
        net = Twoway(4, [(0, 1)])
        tree = Tree.chain([0, 1, 2])
        check_error(self, lambda: cheaper_side(net, (1,), tree), e.OtherSize, 3)
        check_error(self, lambda: is_cut_tree(net, (1, 1), tree), e.BadWorld, -1)
        check_error(self, lambda: flow_on(tree, net, (1, 1), 0, 0), e.OtherSize, 3)
        check_error(self, lambda: cut_trees(Twoway(7, []), ()), e.TooMany, 7)
        check_error(self, lambda: cut_tree(Twoway(9, []), ()), e.TooMany, 9)
        check_error(self, lambda: least_total(Twoway(12, []), ()), e.TooMany, 12)


class AllLeastSides(unittest.TestCase):
    def test_each_least_side_is_a_side_of_some_cut_tree(self):
        for net, world in CASES:
            wood = Wood(net, world)
            sides = {side for edges in wood.trees() for at in range(len(edges))
                     for side in self.two(net.size, counted_side(net.size, edges, at))}
            for side in sides_of(net.size):
                pairs = [(p, q) for p, q in wood.pairs if parts_pair(side, p, q)]
                least = any(wood.costs[side] == wood.flow(p, q) for p, q in pairs)
                self.assertIs(side in sides, least)
                if least:
                    inner = least_total(shrunk(net, side), world) + least_total(shrunk(net, rest_of(net.size, side)),
                                                                                world)
                    self.assertEqual(least_total(net, world), inner - wood.costs[side])

    def two(self, size, side):
        return side, rest_of(size, side)

    def test_classes_by_a_cut_tree(self):
        for net, world in CASES:
            wood = Wood(net, world)
            tree = cut_tree(net, world)
            costs = tree.costs(net, world)
            table = FlowTable(net, world)
            for level in range(-1, max(costs, default=0) + 2):
                found = table.classes(level)
                self.assertEqual(found, wood.classes(level))
                together = [tuple(q for q in range(net.size)
                                  if all(costs[at] >= level for at in tree.way(p, q))) for p in range(net.size)]
                self.assertEqual(found, sorted(set(together)))

    def test_three_places(self):
        for net, world in CASES:
            wood = Wood(net, world)
            flows = sorted(set(wood.flows.values()))
            self.assertLessEqual(len(flows), max(0, net.size - 1))
            for p, q in wood.pairs:
                for r in range(q + 1, net.size):
                    numbers = sorted([wood.flow(p, q), wood.flow(q, r), wood.flow(p, r)])
                    self.assertEqual(numbers[0], numbers[1])

    def test_stars(self):
        for net, world in CASES:
            wood = Wood(net, world)
            singles = [wood.costs[p,] for p in range(net.size)]
            for centre in range(net.size):
                star = Tree.star(net.size, centre)
                told = all(wood.flow(p, centre) == singles[p] for p in range(net.size) if p != centre)
                self.assertIs(is_cut_tree(net, world, star), told)
                self.assertEqual(star.total(net, world), sum(singles) - singles[centre])
                if singles[centre] == max(singles):
                    self.assertIs(told, least_total(net, world) == sum(singles) - max(singles))

    def test_ties_that_make_a_tree(self):
        random = Random(916)
        for _ in range(25):
            size = random.randint(1, 8)
            edges = random_edges(random, size)
            ties = edges + some(917, edges, 2) + [(0, 0)]
            net = Twoway(size, ties)
            world = [random.randint(0, 5) for _ in ties]
            self.assertTrue(is_cut_tree(net, world, Tree(size, edges)))
            self.assertEqual(least_total(net, world), sum(world[:-1]))

    def test_a_net_made_from_a_cut_tree(self):
        for net, world in CASES:
            wood = Wood(net, world)
            tree = cut_tree(net, world)
            made, costs = Twoway(net.size, tree.edges), tree.costs(net, world)
            self.assertEqual(Wood(made, costs).flows, wood.flows)
            self.assertTrue(is_cut_tree(made, costs, tree))
            self.assertEqual(least_total(made, costs), least_total(net, world))
            for p, q in tree:
                small = merged(net, p, q)
                numbers = [behind(net.size, (p, q), place) for place in range(net.size)]
                edges = [(numbers[a], numbers[b]) for a, b in tree if (a, b) != (p, q)]
                self.assertTrue(is_cut_tree(small, world, Tree(small.size, edges)))

    def test_a_world_and_its_multiples(self):
        for net, world in CASES[:15]:
            self.assertEqual(cut_trees(net, [MOST * u for u in world]), cut_trees(net, world))

    def test_flows_by_the_package(self):
        for net, world in CASES[:15]:
            tree = cut_tree(net, world)
            for p in range(net.size):
                for q in range(p):
                    self.assertEqual(flow_on(tree, net, world, p, q), flow_between(net, world, p, q))


class Uncrossed(unittest.TestCase):
    def test_what_it_is(self):
        self.assertEqual(uncrossed([2, 0], (3, 2), 2), (0, 2, 3))
        self.assertEqual(uncrossed((0, 2), [3, 2], 3), (0,))
        self.assertEqual(uncrossed((), (1, 3), 1), ())
        self.assertEqual(uncrossed((4, 1), (), 1), (1, 4))
        random = Random(918)
        for _ in range(60):
            side, branch = [tuple(p for p in range(6) if random.random() < 0.5) for _ in range(2)]
            for post in range(6):
                told = union(side, branch) if post in side else less(side, branch)
                self.assertEqual(uncrossed(side, branch, post), told)

    def test_it_still_serves(self):
        seen = 0
        for net, family, worlds, counted in two_families(919, 5, least=3, most=4):
            settled = settled_two(counted)
            sides = sides_of(net.size)
            for r, s in settled:
                for y in [side for side in sides if serves_two(counted, side, r, s)]:
                    for q, p in settled + [pair[::-1] for pair in settled]:
                        for x in [side for side in sides if q in side and serves_two(counted, side, q, p)]:
                            if r not in x and s not in x:
                                found = uncrossed(y, x, q)
                                self.assertTrue(counted.alike(found, y))
                                self.assertTrue(serves_two(counted, found, r, s))
                                self.assertTrue(less(x, found) in ((), x))
                                seen += 1
        self.assertGreater(seen, 100)


if __name__ == "__main__":
    unittest.main()
