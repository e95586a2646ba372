"""[98], [99]: on and off the way, and every raise."""

import unittest
from random import Random

from leastgates import errors as e
from leastgates.bearing import bears_raises, raise_that_breaks
from leastgates.cuttrees import cut_tree, is_cut_tree
from leastgates.nets import Twoway
from leastgates.raising import raised
from leastgates.trees import Tree
from tests.support import check_error, some, subsets
from tests.woods import MOST, Wood, counted_trees, counted_way, random_edges, two_cases

CASES = two_cases(980, 35, least=1, most=5, ties=6, top=3)


class Raises(unittest.TestCase):
    def test_which_ties_are_borne(self):
        random = Random(981)
        for net, world in CASES:
            for edges in some(982, counted_trees(net.size), 8):
                tree = Tree(net.size, edges)
                ties = [tie for tie in range(net.many) if random.random() < 0.5]
                told = all(len(counted_way(net.size, edges, *net.ties[tie])) <= 1 for tie in ties)
                self.assertIs(bears_raises(net, tree, ties[::-1]), told)
                self.assertIs(bears_raises(net, tree, ()), True)

    def test_every_raise_of_borne_ties(self):
        for net, world in CASES:
            for edges in some(983, Wood(net, world).trees(), 3):
                tree = Tree(net.size, edges)
                for ties in some(984, subsets(range(net.many)), 12):
                    if bears_raises(net, tree, ties):
                        self.assertIsNone(raise_that_breaks(net, list(world), tree, ties))
                        for by in (1, 2, MOST):
                            higher = [u + by * (tie in ties) for tie, u in enumerate(world)]
                            self.assertTrue(is_cut_tree(net, higher, tree))
                    else:
                        self.check_broken(net, world, tree, ties)

    def check_broken(self, net, world, tree, ties):
        found = raise_that_breaks(net, world, tree, list(ties)[::-1])
        self.assertEqual((type(found), len(found)), (tuple, net.many))
        changed = [tie for tie in range(net.many) if found[tie] != world[tie]]
        self.assertEqual(len(changed), 1)
        self.assertIn(changed[0], ties)
        self.assertGreater(found[changed[0]], world[changed[0]])
        self.assertIsNotNone(Wood(net, found).first_wrong(tree.edges))

    def test_greater_nets_and_capacities(self):
        random = Random(985)
        for _ in range(10):
            size = random.randint(6, 8)
            edges = random_edges(random, size)
            ties = edges + [(random.randrange(size), random.randrange(size)) for _ in range(5)]
            net = Twoway(size, ties)
            world = [random.choice((0, 1, MOST)) for _ in ties]
            tree = cut_tree(net, world)
            if bears_raises(net, tree, range_list(net.many)):
                self.assertIsNone(raise_that_breaks(net, world, tree, range_list(net.many)))
            else:
                self.check_broken(net, world, tree, range_list(net.many))

    def test_on_and_off_the_way(self):
        for net, world in CASES:
            wood = Wood(net, world)
            for edges in some(986, wood.trees(), 2):
                for tie, (a, b) in enumerate(net.ties):
                    way = counted_way(net.size, edges, a, b)
                    for by in (1, 3, -1, -world[tie]):
                        if world[tie] + by >= 0:
                            other = Wood(net, raised(net, world, tie, by))
                            costs = other.tree_costs(edges)
                            for at, edge in enumerate(edges):
                                if (at in way) == (by < 0):
                                    self.assertEqual(costs[at], other.flows[edge])

    def test_edges_of_the_document(self):
        self.assertIs(bears_raises(Twoway(1, [(0, 0)]), Tree(1, []), [0]), True)
        self.assertIsNone(raise_that_breaks(Twoway(1, [(0, 0)]), [0], Tree(1, []), [0]))
        self.assertIs(bears_raises(Twoway(2, [(0, 1), (1, 0)]), Tree(2, [(0, 1)]), [1, 0]), True)
        big = Twoway(12, [(0, 11), (3, 4)])
        chain = Tree.chain(list(range(12)))
        self.assertEqual([bears_raises(big, chain, ties) for ties in ([], [0], [1], [1, 0])],
                         [True, False, True, False])
        net = Twoway(3, [(0, 1), (1, 2), (0, 2)])
        self.assertEqual(raise_that_breaks(net, (2, 2, 0), Tree.chain([0, 1, 2]), (0, 1)), None)
        self.check_broken(net, (2, 2, 0), Tree.chain([0, 1, 2]), (2, 1))

    def test_worlds_of_zeros(self):
        net = Twoway(3, [(0, 1), (1, 2), (0, 2), (1, 1)])
        for edges in counted_trees(3):
            for ties in subsets(range(4)):
                tree = Tree(3, edges)
                if bears_raises(net, tree, ties):
                    self.assertIsNone(raise_that_breaks(net, (0, 0, 0, 0), tree, ties))
                else:
                    self.check_broken(net, (0, 0, 0, 0), tree, ties)

    def test_errors(self):
        net = Twoway(3, [(0, 1), (1, 2), (0, 2)])
        star = Tree.star(3, 0)
        for ties in ([], [0], [0, 2], [1]):
            check_error(self, lambda: raise_that_breaks(net, (2, 2, 0), star, ties), e.NotACutTree, 0)
        check_error(self, lambda: bears_raises(net, Tree.star(4, 0), None), e.OtherSize, 4)
        check_error(self, lambda: bears_raises(net, star, [3]), e.BadTies, 0)
        check_error(self, lambda: raise_that_breaks(net, (2, 2), Tree.star(4, 0), None), e.BadWorld, -1)
        check_error(self, lambda: raise_that_breaks(Twoway(9, []), (), Tree.star(9, 0), [0]), e.BadTies, 0)
        check_error(self, lambda: raise_that_breaks(Twoway(9, []), (), Tree.star(9, 0), []), e.TooMany, 9)


def range_list(many):
    return list(range(many))


if __name__ == "__main__":
    unittest.main()
