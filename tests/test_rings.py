"""[126] to [128]: rings, and nets in whose every world one tree is enough."""

import unittest
from itertools import permutations, product
from random import Random

from leastgates import errors as e
from leastgates.cuttrees import cut_tree, cut_trees, is_cut_tree, least_total
from leastgates.families import Told
from leastgates.nearby import common_trees
from leastgates.nets import Oneway, Twoway
from leastgates.onetree import is_one_tree, one_tree
from leastgates.ranks import ranks
from leastgates.rings import (forest_tree, found_ring, is_ring, least_tie, ring_order, ring_tree, ring_worlds)
from leastgates.serving import settled_pairs
from leastgates.splits import sides_number
from leastgates.stretches import Stretches
from leastgates.tables import FlowTable
from leastgates.trees import Tree
from tests.support import check_error, random_net
from tests.woods import MOST, Wood, counted_trees, joins, one_trees, random_edges
from tests.worlds import KINDS, counted_worlds, random_family


def random_ring(random, size):
    """A ring with its ties in any order and direction."""
    order = random.sample(range(size), size)
    ties = [(order[at - 1], order[at])[::random.choice((1, -1))] for at in range(size)]
    random.shuffle(ties)
    return Twoway(size, ties)


def counted_order(net):
    """The places along the ring by trying all orders, None if the net is no ring."""
    if net.size < 3 or net.many != net.size or any(a == b for a, b in net.ties):
        return None
    pairs = sorted(tuple(sorted(pair)) for pair in net.ties)
    for rest in permutations(range(1, net.size)):
        order = (0,) + rest
        if sorted(tuple(sorted((order[at - 1], order[at]))) for at in range(net.size)) == pairs:
            return order
    return None


def holds_ring(net):
    """By trying all orders of three or more places."""
    pairs = {tuple(sorted(pair)) for pair in net.ties}
    for many in range(3, net.size + 1):
        for order in permutations(range(net.size), many):
            if all(tuple(sorted((order[at - 1], order[at]))) in pairs for at in range(many)):
                return True
    return False


def ways_along(net, order, p, q):
    """The two ways along the ring between two places, as lists of ties."""
    numbers = {tuple(sorted(pair)): tie for tie, pair in enumerate(net.ties)}
    at, end = sorted((order.index(p), order.index(q)))
    one = [numbers[tuple(sorted((order[k], order[k + 1])))] for k in range(at, end)]
    return one, [tie for tie in range(net.many) if tie not in one]


class Rings(unittest.TestCase):
    def test_which_are_rings(self):
        random = Random(1260)
        nets = [random_net(random, size, size, Twoway) for size in (3, 3, 4, 5) * 30]
        nets += [random_ring(random, random.randint(3, 6)) for _ in range(30)]
        pairs = [(a, b) for a in range(3) for b in range(3)]
        nets += [Twoway(3, ties) for ties in product(pairs, repeat=3)]
        nets += [Twoway(size, [(p, (p + 1) % size) for p in range(size)]) for size in range(1, 7)]
        nets += [Twoway(6, [(0, 1), (1, 2), (2, 0), (3, 4), (4, 5), (5, 3)]), Twoway(4, [(0, 1), (1, 0)] * 2)]
        nets += [Twoway(3, [(0, 1), (1, 2), (0, 2), (0, 0)]), Twoway(3, [(0, 1), (1, 2)]), Twoway(1, []), Twoway(2, [])]
        rings = 0
        for net in nets:
            told = counted_order(net)
            self.assertIs(is_ring(net), told is not None)
            if told is None:
                for call in (lambda: ring_order(net), lambda: ring_tree(net, None), lambda: least_tie(net, Told((1,)))):
                    check_error(self, call, e.NotARing)
            else:
                rings += 1
                found = ring_order(net)
                self.assertEqual((type(found), found), (tuple, min(told, (0,) + told[:0:-1])))
        self.assertGreater(rings, 60)

    def test_greater_rings(self):
        random = Random(1261)
        for size in (3, 7, 8, 9, 12):
            net = random_ring(random, size)
            order = ring_order(net)
            self.assertEqual((order[0], sorted(order), is_ring(net)), (0, list(range(size)), True))
            self.assertTrue(all((order[at - 1], order[at]) in net for at in range(size)))
            self.assertLess(order[1], order[-1])
            for tie in range(size):
                told = Tree(size, net.ties[:tie] + net.ties[tie + 1:])
                self.assertEqual(ring_tree(net, tie), told)
            self.assertEqual(sorted(found_ring(net)), list(range(size)))
            self.assertEqual(least_tie(net, Stretches([(MOST, MOST)] * size)), 0)

    def test_one_world(self):
        random = Random(1262)
        for size in (3, 4, 5) * 8:
            net = random_ring(random, size)
            world = [random.choice((0, 1, 2, 3, MOST)) for _ in range(size)]
            wood, order, least = Wood(net, world), ring_order(net), min(world)
            self.assertEqual(least_total(net, world), sum(world) + (size - 2) * least)
            left = sorted(world)[1:]
            self.assertEqual(ranks(net, world), [u + least for u in left])
            for p, q in wood.pairs:
                ways = ways_along(net, order, p, q)
                self.assertEqual(wood.flow(p, q), sum(min(world[tie] for tie in way) for way in ways))
            trees = wood.trees()
            for tie in range(size):
                tree = ring_tree(net, tie)
                self.assertIs(tree.edges in trees, world[tie] == least)
                if all(u > world[tie] for other, u in enumerate(world) if other != tie):
                    self.assertEqual(trees, [tree.edges])
                for edges in trees:
                    if Tree(size, edges).dist(*net.ties[tie]) > 1:
                        self.assertEqual(world[tie], least)
            self.assertTrue(any(ring_tree(net, tie).edges in trees for tie in range(size)))

    def test_ring_trees_are_all_needed(self):
        net = Twoway(4, [(0, 1), (1, 2), (2, 3), (3, 0)])
        for tie in range(4):
            world = [2 - (at == tie) for at in range(4)]
            self.assertEqual(cut_trees(net, world), [ring_tree(net, tie)])

    def test_families(self):
        random = Random(1270)
        kinds = {}
        for word in KINDS * 10:
            size = random.randint(3, 5)
            net = random_ring(random, size)
            family = random_family(random, size, word, 3)
            worlds = counted_worlds(family)
            never = [[all(world[e] <= world[d] for world in worlds) for d in range(size)] for e in range(size)]
            told = [tie for tie in range(size) if all(never[tie])]
            self.assertEqual(least_tie(net, family), told[0] if told else None)
            self.assertIs(one_tree(net, family) is not None, bool(told))
            for tie in range(size):
                self.assertIs(is_one_tree(net, family, ring_tree(net, tie)), tie in told)
            self.check_settled(net, family, never, bool(told))
            kinds[bool(told), word] = True
        self.assertGreater(len(kinds), 9)

    def check_settled(self, net, family, never, one):
        order = ring_order(net)
        told = []
        for p in range(net.size):
            for q in range(p + 1, net.size):
                ways = ways_along(net, order, p, q)
                if all(any(all(never[tie][other] for other in way) for tie in way) for way in ways):
                    told.append((p, q))
        self.assertEqual(settled_pairs(net, family), told)
        if not one:
            self.assertEqual(sides_number(net, family), 1 if told else 0)

    def test_errors(self):
        net = Twoway(3, [(0, 1), (1, 2), (0, 2)])
        for tie in (-1, 3, True, None, "0"):
            check_error(self, lambda: ring_tree(net, tie), e.BadTie, "tie")
        check_error(self, lambda: least_tie(net, Told((1, 1))), e.OtherSize, 2)
        one = Oneway(3, [(0, 1), (1, 2), (2, 0)])
        for call in (is_ring, ring_order, found_ring, forest_tree, lambda net: ring_tree(net, None),
                     lambda net: least_tie(net, Told(())), lambda net: ring_worlds(net, None)):
            check_error(self, lambda: call(one), e.NotTwoway)


class AllCapacities(unittest.TestCase):
    def nets(self):
        random = Random(1280)
        for at in range(120):
            size = random.randint(1, 5)
            yield random_net(random, random.randint(size, 5), random.randint(0, 10), Twoway)
            edges = random_edges(random, size)
            many = random.randint(0, size - 1)
            ties = [random.choice((pair, pair[::-1])) for pair in edges[:many] + edges[:many // 2] + [(0, 0)]]
            random.shuffle(ties)
            yield Twoway(size, ties)

    def test_found_rings(self):
        found = {True: 0, False: 0}
        for net in self.nets():
            ring = found_ring(net)
            told = holds_ring(net)
            found[told] += 1
            self.assertIs(ring is not None, told)
            if told:
                self.check_ring(net, ring)
                check_error(self, lambda: forest_tree(net), e.HoldsARing)
            else:
                self.check_forest(net, forest_tree(net))
                check_error(self, lambda: ring_worlds(net, None), e.NotARing)
        self.assertGreater(min(found.values()), 40)

    def check_ring(self, net, ring):
        self.assertIs(type(ring), tuple)
        self.assertTrue(len(ring) == len(set(ring)) >= 3)
        self.assertTrue(all((ring[at - 1], ring[at]) in net for at in range(len(ring))))
        for top in (1, 3, MOST):
            pairs = [{ring[at - 1], ring[at]} for at in range(len(ring))]
            told = []
            for gone in ({ring[0], ring[1]}, {ring[1], ring[2]}):
                told.append(tuple(top if {a, b} in pairs and {a, b} != gone else 0 for a, b in net.ties))
            self.assertEqual(ring_worlds(net, top), tuple(told))
            self.assertEqual(common_trees(net, *told), [])
            stretches = Stretches([(0, top)] * net.many)
            self.assertTrue(all(world in stretches for world in told))
            self.assertIsNone(one_tree(net, stretches))
        for top in (0, -1, True, None, "1", 1.0, [1]):
            check_error(self, lambda: ring_worlds(net, top), e.BadNumber, "top")

    def check_forest(self, net, tree):
        self.assertIs(type(tree), Tree)
        self.assertEqual(tree.size, net.size)
        self.assertTrue(all(a == b or tree.neighbours(a, b) for a, b in net.ties))
        random = Random(net.many)
        for word in KINDS:
            family = random_family(random, net.many, word, 3)
            self.assertTrue(is_one_tree(net, family, tree))
        world = [random.choice((0, 1, MOST)) for _ in net.ties]
        self.assertIn(tree.edges, one_trees(net, [tuple(world)]))

    def test_sides_numbers(self):
        for net in self.nets():
            for top in (1, MOST):
                stretches = Stretches([(0, top)] * net.many)
                self.assertEqual(sides_number(net, stretches), self.bridges(net) + self.pieces(net.size, net.ties) - 1)
                self.assertIs(one_tree(net, stretches) is None, holds_ring(net))

    def bridges(self, net):
        found = 0
        for pair in {tuple(sorted(pair)) for pair in net.ties if pair[0] != pair[1]}:
            left = [ends for ends in net.ties if tuple(sorted(ends)) != pair]
            found += self.pieces(net.size, left) > self.pieces(net.size, net.ties)
        return found

    def pieces(self, size, ties):
        labels = list(range(size))
        for a, b in ties:
            labels = [labels[a] if label == labels[b] else label for label in labels]
        return len(set(labels))

    def test_more_ties_than_places_and_twelve_places(self):
        double = Twoway(4, [(0, 1), (1, 0), (0, 1), (2, 1), (1, 2), (2, 2)])
        self.assertIsNone(found_ring(double))
        self.assertTrue(forest_tree(double).neighbours(0, 1) and forest_tree(double).neighbours(1, 2))
        self.check_ring(Twoway(3, double.ties + ((2, 0),)), found_ring(Twoway(3, double.ties + ((2, 0),))))
        chain = Twoway(12, [(p + 1, p) for p in range(11)] * 3)
        self.assertEqual(forest_tree(chain), Tree.chain(list(range(12))))
        ring = found_ring(Twoway(12, chain.ties + ((0, 11),)))
        self.assertEqual(sorted(ring), list(range(12)))
        self.assertEqual(forest_tree(Twoway(1, [(0, 0)])), Tree(1, []))
        self.assertIsNone(found_ring(Twoway(2, [(0, 1), (1, 0), (0, 1)])))
        self.assertTrue(joins(12, forest_tree(Twoway(12, [])).edges))
        self.assertTrue(is_cut_tree(Twoway(8, []), [], forest_tree(Twoway(8, []))))

    def test_tables_of_rings(self):
        net = Twoway(3, [(2, 0), (0, 1), (2, 1)])
        table = FlowTable(net, (1, 2, 3))
        self.assertEqual((table[0, 1], table[1, 2], table[0, 2]), (3, 4, 3))
        self.assertEqual(cut_tree(net, (1, 2, 3)), ring_tree(net, 0))
        self.assertEqual(len(counted_trees(3)), 3)


if __name__ == "__main__":
    unittest.main()
