"""[110], [111], [114], [115], [118] to [120]: one tree for all worlds of a family, against a counting of all trees."""

import unittest
from random import Random

from leastgates import errors as e
from leastgates.changes import Losses, Moves
from leastgates.cuttrees import cut_tree
from leastgates.families import Listed, Told
from leastgates.nets import Oneway, Twoway
from leastgates.onetree import failing, is_one_tree, middle_tree, one_tree, stuck_lot, tree_of
from leastgates.ranks import matched_edges
from leastgates.raising import raised
from leastgates.serving import settled_pairs
from leastgates.steps import first_grove, full_grove, refine
from leastgates.stretches import Stretches
from leastgates.trees import Tree
from tests.support import check_error, counted_cost, rest_of, some
from tests.woods import (MOST, Wood, counted_side, counted_trees, counted_way, one_trees, random_edges, settled_two,
                         two_cases, two_families, web_families)
from tests.worlds import Counted, counted_middle, counted_worlds

CASES = two_families(1110, 5, least=1, most=4, ties=7) + web_families(1111, 5) + web_families(1112, 2, least=5, most=5)


class OneTrees(unittest.TestCase):
    def test_if_there_is_one(self):
        found_none = 0
        for net, family, worlds, counted in CASES:
            told = one_trees(net, worlds)
            found = one_tree(net, family)
            if found is None:
                found_none += 1
                self.assertEqual(told, [])
            else:
                self.assertIs(type(found), Tree)
                self.assertIn(found.edges, told)
            self.assertIs(found is None, len(full_grove(net, family)) < net.size)
        self.assertTrue(10 < found_none < len(CASES) - 10, (found_none, len(CASES)))

    def test_which_trees_are_one_and_what_fails(self):
        for net, family, worlds, counted in CASES:
            woods = [Wood(net, world) for world in worlds]
            for edges in some(1112, counted_trees(net.size), 16):
                tree = Tree(net.size, edges)
                wrong = [at for at, edge in enumerate(edges)
                         if any(wood.costs[tree.side(at)] != wood.flows[edge] for wood in woods)]
                self.assertIs(is_one_tree(net, family, tree), not wrong)
                self.assertIs(not wrong, all(wood.total(edges) == wood.least() for wood in woods))
                found = failing(net, family, tree)
                if not wrong:
                    self.assertIsNone(found)
                else:
                    self.check_failing(net, tree, worlds, found, wrong[0])

    def check_failing(self, net, tree, worlds, found, wrong):
        at, world, side = found
        p, q = tree.edges[at]
        self.assertEqual((type(found), at), (tuple, wrong))
        self.assertIn(world, worlds)
        self.assertTrue(p in side and q not in side and side == tuple(sorted(side)))
        self.assertLess(counted_cost(net, world, side), counted_cost(net, world, tree.side(at)))

    def test_the_middle(self):
        for net, family, worlds, counted in CASES:
            wood = Wood(net, counted_middle(family))
            self.assertIsNone(wood.first_wrong(middle_tree(net, family).edges))
            told = one_trees(net, worlds)
            if told:
                self.assertEqual(told, wood.trees())
            settled = settled_two(counted)
            alone = [edges for edges in wood.trees() if all(edge in settled for edge in edges)]
            self.assertEqual(alone, told)

    def test_a_middle_with_no_settled_edge(self):
        net, family = Twoway(3, [(0, 1), (1, 2), (0, 2)]), Stretches([(5, 5), (5, 5), (0, 6)])
        tree = middle_tree(net, family)
        self.assertEqual((tree.edges, settled_pairs(net, family)), (((0, 1), (1, 2)), [(0, 2)]))
        self.assertEqual((len(full_grove(net, family)), one_tree(net, family)), (2, None))
        self.assertEqual(stuck_lot(net, family), (0, 1))

    def test_stuck_lots(self):
        for net, family, worlds, counted in CASES:
            lot = stuck_lot(net, family)
            if one_trees(net, worlds):
                self.assertIsNone(lot)
            else:
                self.assertIn(lot, full_grove(net, family).lots)
                self.assertGreater(len(lot), 1)
                self.assertFalse([pair for pair in settled_two(counted) if pair[0] in lot and pair[1] in lot])

    def test_the_tree_of_a_grove(self):
        for net, family, worlds, counted in CASES:
            grove = first_grove(net, family)
            settled = settled_two(counted)
            while True:
                pairs = [(p, q) for p in range(net.size) for q in range(p + 1, net.size)
                         if grove.lot_at(p) == grove.lot_at(q)]
                if pairs:
                    check_error(self, lambda: tree_of(grove), e.NotFull, *pairs[0])
                else:
                    tree = tree_of(grove)
                    self.assertEqual(sorted(tree.edges), sorted(tuple(sorted(ends)) for ends in grove.posts))
                    self.assertIn(tree.edges, one_trees(net, worlds))
                inside = [pair for pair in pairs if pair in settled]
                if not inside:
                    break
                grove = refine(grove, *inside[len(inside) // 2])

    def test_few_places_and_many(self):
        for family in (Told(()), Stretches([]), Losses((), 2), Moves((), 1)):
            net = Twoway(1, [])
            self.assertEqual((one_tree(net, family), is_one_tree(net, family, Tree(1, []))), (Tree(1, []), True))
            self.assertEqual((failing(net, family, Tree(1, [])), stuck_lot(net, family)), (None, None))
            self.assertEqual((middle_tree(net, family), tree_of(first_grove(net, family))), (Tree(1, []), Tree(1, [])))
        net = Twoway(2, [(0, 1), (1, 0)])
        self.assertEqual(one_tree(net, Stretches([(0, MOST)] * 2)), Tree(2, [(0, 1)]))
        chain = Twoway(8, [(p + 1, p) for p in range(7)])
        self.assertEqual(one_tree(chain, Stretches([(0, MOST)] * 7)), Tree.chain(list(range(8))))
        web = Twoway(8, [(p, q) for p in range(8) for q in range(p)])
        self.assertIsNone(one_tree(web, Stretches([(0, 1)] * 28)))
        self.assertEqual(stuck_lot(web, Stretches([(0, 1)] * 28)), tuple(range(8)))
        for function in (one_tree, middle_tree, stuck_lot):
            check_error(self, lambda: function(Twoway(9, []), Told(())), e.TooMany, 9)
            check_error(self, lambda: function(Twoway(9, []), Told((1,))), e.OtherSize, 1)
            check_error(self, lambda: function(Oneway(9, []), Told((1,))), e.NotTwoway)
        for function in (is_one_tree, failing):
            check_error(self, lambda: function(Twoway(9, []), Told((1,)), Tree.star(3, 0)), e.OtherSize, 1)
            check_error(self, lambda: function(Twoway(9, []), Told(()), Tree.star(3, 0)), e.OtherSize, 3)
            check_error(self, lambda: function(Twoway(9, []), Told(()), Tree.star(9, 0)), e.TooMany, 9)


class Kinds(unittest.TestCase):
    def test_worlds_near_to_each_other(self):
        for net, world in two_cases(1140, 12, least=2, most=5, ties=7):
            family = Told(world)
            self.assertEqual(len(settled_pairs(net, family)), net.size * (net.size - 1) // 2)
            self.assertEqual(one_tree(net, family), cut_tree(net, world))
            for tie in range(net.many):
                self.assertIsNotNone(one_tree(net, Listed(world, raised(net, world, tie, 1))))
                pairs = [(u, u + (at == tie)) for at, u in enumerate(world)]
                self.assertIsNotNone(one_tree(net, Stretches(pairs)))

    def test_moves_by_1(self):
        for net, world in two_cases(1141, 20, least=2, most=4, ties=6, top=3):
            trees = Wood(net, world).trees()
            dists = {edges: [len(counted_way(net.size, edges, a, b)) for a, b in net.ties] for edges in trees}
            least = [min(row[tie] for row in dists.values()) for tie in range(net.many)]
            told = [edges for edges in trees if dists[edges] == least]
            found = one_tree(net, Moves(world, 1))
            self.assertIs(found is None, not told)
            self.assertEqual([edges for edges in counted_trees(net.size)
                              if is_one_tree(net, Moves(world, 1), Tree(net.size, edges))], told)
            for edges in told:
                for tie, u in enumerate(world):
                    if u > 0:
                        self.assertEqual(dists[edges][tie], max(row[tie] for row in dists.values()))

    def test_losses(self):
        for net, world in two_cases(1142, 25, least=2, most=4, ties=5, top=2):
            for number in (1, 2, net.many, net.many + 3):
                family = Losses(world, number)
                found = [is_one_tree(net, family, Tree(net.size, edges)) for edges in Wood(net, world).trees()]
                self.assertIs(all(found), any(found))
                self.assertIs(one_tree(net, family) is not None, any(found))
                if number >= net.many:
                    self.check_all_lost(net, world, family)

    def check_all_lost(self, net, world, family):
        for edges in some(1143, counted_trees(net.size), 16):
            tree = Tree(net.size, edges)
            told = all(world[tie] == 0 or sorted(net.ties[tie]) == [p, q]
                       for at, (p, q) in enumerate(edges) for tie in net.gates(tree.side(at)))
            self.assertIs(is_one_tree(net, family, tree), told)
        stretches = Stretches([(0, u) for u in world])
        self.assertIs(one_tree(net, family) is None, one_tree(net, stretches) is None)


class WithOneTree(unittest.TestCase):
    def with_trees(self):
        """The cases that have one tree, with one of them, a Counted and all such trees."""
        for net, family, worlds, counted in CASES:
            told = one_trees(net, worlds)
            if told:
                yield net, family, counted, told

    def test_settled_pairs_and_always_holders(self):
        for net, family, counted, told in self.with_trees():
            for edges in told[:3]:
                sides = [counted_side(net.size, edges, at) for at in range(len(edges))]
                settled = settled_two(counted)
                for p in range(net.size):
                    for q in range(p + 1, net.size):
                        way = counted_way(net.size, edges, p, q)
                        least = any(all(counted.never_dearer(sides[at], sides[other]) for other in way) for at in way)
                        self.assertIs((p, q) in settled, least)
                for at, (p, q) in enumerate(edges):
                    for side, end in ((sides[at], p), (rest_of(net.size, sides[at]), q)):
                        ways = {v: counted_way(net.size, edges, v, end) for v in side}
                        holders = tuple(v for v in side
                                        if all(counted.never_dearer(side, sides[other]) for other in ways[v]))
                        self.assertEqual(counted.holders(side), holders)

    def test_matched_trees_and_dists(self):
        random = Random(1180)
        for net, family, counted, told in self.with_trees():
            tree = Tree(net.size, told[0])
            for _ in range(6):
                other = Tree(net.size, random_edges(random, net.size))
                pairs = matched_edges(other, tree)
                self.assertTrue(all(counted.never_dearer(tree.side(at2), other.side(at)) for at, at2 in pairs))
                alike = all(counted.alike(tree.side(at2), other.side(at)) for at, at2 in pairs)
                self.assertIs(other.edges in told, alike)
            if family.WORD == "stretches":
                ties = family.unseen()
            elif family.WORD == "losses" and family.number:
                ties = [tie for tie, u in enumerate(family.world) if u > 0]
            elif family.WORD == "moves" and family.change:
                ties = range(net.many)
            else:
                ties = []
            for tie in ties:
                self.assertEqual(len({len(counted_way(net.size, edges, *net.ties[tie])) for edges in told}), 1)

    def test_what_a_tree_lacks(self):
        for net, family, worlds, counted in CASES:
            woods = [Wood(net, world) for world in worlds]
            for edges in some(1190, counted_trees(net.size), 6):
                sides = [counted_side(net.size, edges, at) for at in range(len(edges))]
                regrets = [counted.regret((p,), (q,), side) for (p, q), side in zip(edges, sides)]
                lacks = max(wood.total(edges) - wood.least() for wood in woods)
                self.assertTrue(max(regrets, default=0) <= lacks <= sum(regrets))
                self.assertIs(lacks == 0, is_one_tree(net, family, Tree(net.size, edges)))


class Worlds(unittest.TestCase):
    def test_counted_worlds_are_those_of_the_cases(self):
        for net, family, worlds, counted in CASES[:6]:
            self.assertEqual(counted_worlds(family), worlds)
            self.assertIsInstance(counted, Counted)


if __name__ == "__main__":
    unittest.main()
