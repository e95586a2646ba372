"""[97], [100], [101]: one tie changed by 1, sums of worlds, holders by a cut tree."""

import unittest
from random import Random

from leastgates import errors as e
from leastgates.costs import added
from leastgates.cuttrees import cut_trees, least_total
from leastgates.nearby import common_trees, greatest_dist, holders_by, least_dist, trees_lowered, trees_raised
from leastgates.nets import Twoway
from leastgates.raising import raised
from leastgates.trees import Tree
from tests.support import check_error, counted_holds, random_net, rest_of, some
from tests.woods import MOST, Wood, counted_side, counted_trees, counted_way, two_cases

CASES = two_cases(970, 30, least=1, most=5, ties=7, top=3)
# Rings and webs in which many trees are cut trees.
CASES += [(Twoway(size, [(p, (p + 1) % size) for p in range(size)]), (1,) * size) for size in (3, 4, 5)]
CASES += [(Twoway(4, [(0, 1), (1, 2), (2, 3), (3, 0), (0, 2)]), world)
          for world in ((2, 2, 2, 2, 0), (1, 2, 1, 2, 1), (2, 1, 1, 2, 0), (3, 3, 3, 3, 3))]


class OneTie(unittest.TestCase):
    def test_dists_over_all_cut_trees(self):
        for net, world in CASES:
            trees = Wood(net, world).trees()
            for tie, (a, b) in enumerate(net.ties):
                dists = [len(counted_way(net.size, edges, a, b)) for edges in trees]
                found = least_dist(net, list(world), tie), greatest_dist(net, world, tie)
                self.assertEqual(found, (min(dists), max(dists)))

    def test_raised_and_lowered_by_1(self):
        fewer = 0
        for net, world in CASES:
            trees = Wood(net, world).trees()
            for tie in range(net.many):
                higher = Wood(net, raised(net, world, tie, 1))
                still = [edges for edges in trees if higher.first_wrong(edges) is None]
                found = trees_raised(net, world, tie)
                self.assertEqual((type(found), [tree.edges for tree in found]), (list, still))
                self.assertGreater(len(still), 0)
                self.assertEqual(higher.least() - least_total(net, world), least_dist(net, world, tie))
                self.assertEqual(greatest_dist(net, higher.world, tie), least_dist(net, world, tie))
                if world[tie] == 0:
                    check_error(self, lambda: trees_lowered(net, world, tie), e.BadNumber, "tie")
                else:
                    lower = Wood(net, raised(net, world, tie, -1))
                    still = [edges for edges in trees if lower.first_wrong(edges) is None]
                    found = trees_lowered(net, world, tie)
                    self.assertEqual((type(found), [tree.edges for tree in found]), (list, still))
                    self.assertEqual(least_total(net, world) - lower.least(), greatest_dist(net, world, tie))
                    fewer += len(still) < len(trees)
        self.assertGreater(fewer, 5)

    def test_raised_again_and_again(self):
        for net, world in two_cases(971, 10, least=2, most=4, ties=5):
            for tie in range(net.many):
                steps = []
                for by in range(12):
                    higher = raised(net, world, tie, by)
                    steps.append(least_dist(net, higher, tie))
                    self.assertEqual(least_total(net, raised(net, world, tie, by + 1)) - least_total(net, higher),
                                     steps[-1])
                self.assertEqual(steps, sorted(steps, reverse=True))

    def test_greatest_capacities_and_loops(self):
        net = Twoway(3, [(0, 1), (1, 2), (1, 1)])
        world = (MOST, MOST, MOST)
        self.assertEqual([least_dist(net, world, tie) for tie in range(3)], [1, 1, 0])
        self.assertEqual(trees_lowered(net, world, 2), [Tree.chain([0, 1, 2])])
        self.assertEqual(trees_raised(Twoway(1, [(0, 0)]), (0,), 0), [Tree(1, [])])
        check_error(self, lambda: trees_lowered(Twoway(1, [(0, 0)]), (0,), 0), e.BadNumber, "tie")
        self.assertEqual(trees_lowered(Twoway(1, [(0, 0)]), (1,), 0), [Tree(1, [])])

    def test_six_places_and_seven(self):
        net = random_net(Random(972), 6, 9, Twoway)
        world = [1, 2, 3, 0, 1, 2, 3, 1, 2]
        trees = Wood(net, world).trees()
        dists = [len(counted_way(6, edges, *net.ties[1])) for edges in trees]
        self.assertEqual((least_dist(net, world, 1), greatest_dist(net, world, 1)), (min(dists), max(dists)))
        big = Twoway(7, net.ties)
        for function in (least_dist, greatest_dist, trees_raised, trees_lowered):
            check_error(self, lambda: function(big, world, 3), e.TooMany, 7)
        check_error(self, lambda: common_trees(big, world, world), e.TooMany, 7)
        # No cut tree in common is no answer for seven places either.
        ring = Twoway(7, [(0, 1), (0, 2), (1, 2)])
        check_error(self, lambda: common_trees(ring, (1, 2, 2), (3, 2, 2)), e.TooMany, 7)
        check_error(self, lambda: trees_lowered(net, world, 3), e.BadNumber, "tie")


class TwoWorlds(unittest.TestCase):
    def test_common_trees_against_a_counting(self):
        random = Random(973)
        none_found = 0
        webs = [Twoway(size, [(p, q) for p in range(size) for q in range(p)]) for size in (3, 4, 5) * 4]
        for net, one in CASES + [(net, [random.randint(1, 5) for _ in net.ties]) for net in webs]:
            for same in (0, 0, 0.5, 0.7):
                other = [u if random.random() < same else random.randint(0, 5) for u in one]
                here, there = Wood(net, one), Wood(net, other)
                told = [edges for edges in here.trees() if there.first_wrong(edges) is None]
                found = common_trees(net, one, other)
                self.assertEqual((type(found), [tree.edges for tree in found]), (list, told))
                total = added(net, one, other)
                whole = least_total(net, one) + least_total(net, other)
                self.assertGreaterEqual(least_total(net, total), whole)
                self.assertIs(least_total(net, total) == whole, bool(told))
                if told:
                    self.assertEqual([tree.edges for tree in cut_trees(net, total)], told)
                none_found += not told
        self.assertGreater(none_found, 2)

    def test_two_worlds_with_no_tree_in_common(self):
        net = Twoway(3, [(0, 1), (0, 2), (1, 2)])
        self.assertEqual(common_trees(net, (1, 2, 2), (3, 2, 2)), [])
        self.assertEqual(len(common_trees(net, (1, 2, 2), (2, 2, 2))), 1)

    def test_a_world_with_itself(self):
        for net, world in CASES[:12]:
            self.assertEqual(common_trees(net, world, list(world)), cut_trees(net, world))
            self.assertEqual(cut_trees(net, [3 * u for u in world]), cut_trees(net, world))

    def test_all_trees_in_common(self):
        net = Twoway(6, [(0, 1), (2, 2)])
        self.assertEqual(len(common_trees(net, (0, 3), (0, MOST))), 1296)


class Holders(unittest.TestCase):
    def test_against_a_counting(self):
        for net, world in CASES:
            for edges in some(974, Wood(net, world).trees(), 4):
                tree = Tree(net.size, edges)
                for at in range(len(edges)):
                    side = counted_side(net.size, edges, at)
                    told = tuple(p for p in side if counted_holds(net, world, (p,), side))
                    self.assertEqual(holders_by(tree, net, list(world), at), told)

    def test_the_rest_of_a_side(self):
        # The rest of a side is a side of the tree with the places numbered from the other end on.
        for net, world in CASES[:15]:
            turned = Twoway(net.size, [(net.size - 1 - a, net.size - 1 - b) for a, b in net.ties])
            for edges in some(975, Wood(turned, world).trees(), 2):
                tree = Tree(net.size, edges)
                for at in range(len(edges)):
                    side = rest_of(net.size, tuple(net.size - 1 - p for p in counted_side(net.size, edges, at)))
                    lot = tuple(sorted(net.size - 1 - p for p in rest_of(net.size, side)))
                    self.assertEqual(holders_by(tree, turned, world, at),
                                     tuple(p for p in lot if counted_holds(turned, world, (p,), lot)))

    def test_errors(self):
        net, world = Twoway(4, [(0, 1), (1, 2), (2, 3)]), (1, 2, 3)
        wood = Wood(net, world)
        for edges in counted_trees(4):
            wrong = wood.first_wrong(edges)
            if wrong is not None:
                check_error(self, lambda: holders_by(Tree(4, edges), net, world, 1), e.NotACutTree, wrong)
        for at in (-1, 3, True, None, "1"):
            check_error(self, lambda: holders_by(Tree.chain([0, 1, 2, 3]), net, world, at), e.BadNumber, "at")
        tree = Tree.star(9, 0)
        check_error(self, lambda: holders_by(tree, Twoway(9, [(1, 2)]), (1,), 8), e.BadNumber, "at")
        check_error(self, lambda: holders_by(tree, Twoway(9, [(1, 2)]), (1,), 7), e.TooMany, 9)
        check_error(self, lambda: holders_by(Tree(1, []), Twoway(1, []), (), 0), e.BadNumber, "at")
        chain = Tree.chain(list(range(8)))
        self.assertEqual(holders_by(chain, Twoway(8, chain.edges), range_of(7), 2), (2,))


def range_of(many):
    """The capacities 1, 2, .. of so many ties."""
    return tuple(range(1, many + 1))


if __name__ == "__main__":
    unittest.main()
