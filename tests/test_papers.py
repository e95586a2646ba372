"""[51], [132] to [135]: papers, against a trying of all sets of unseen ties in all worlds."""

import unittest
from random import Random

from leastgates import errors as e
from leastgates.always import always_holds
from leastgates.cuttrees import cut_tree, cut_trees
from leastgates.nets import Oneway, Twoway
from leastgates.onetree import is_one_tree
from leastgates.papers import (asked, fewest_tree_paper, forced_ties, is_half_paper, is_paper, is_tree_paper,
                               lean_half_paper, lean_tree_paper)
from leastgates.serving import serves
from leastgates.splits import sides_number
from leastgates.stretches import Stretches
from leastgates.thin import one_filling
from leastgates.trees import Tree
from tests.support import (check_error, counted_gates, counted_holds, counted_least, lies_in, pairs_inside, random_net,
                           rest_of, sides_of, some, subsets)
from tests.woods import MOST, Wood, counted_trees, one_trees
from tests.worlds import Counted, counted_worlds, random_stretches


def paper_cases(seed, count, kinds=(Oneway, Twoway), most=4, ties=6, unseen=4):
    """A net, stretches and a world that agrees with them."""
    random = Random(seed)
    found = []
    for at in range(count):
        size = random.randint(1 if at % 4 == 0 else 3, most)
        net = random_net(random, size, random.randint(1 if at % 4 == 0 else ties - 2, ties), kinds[at % len(kinds)])
        stretches = random_stretches(random, net.many, 3, unseen)
        found.append((net, stretches, tuple(random.randint(low, high) for low, high in stretches.pairs)))
    return found


HALF = paper_cases(1330, 40)
TREES = paper_cases(1331, 22, kinds=(Twoway,)) + [
    (Twoway(3, [(0, 1), (1, 2), (2, 0)]), Stretches([(3, 5), (5, 5), (0, 6)]), (5, 5, 3)),
    (Twoway(4, [(0, 1), (1, 2), (2, 3), (3, 0), (0, 2)]), Stretches([(0, 3), (1, 3), (2, 2), (0, 2), (0, 1)]),
     (2, 2, 2, 1, 1)),
    (Twoway(4, [(0, 1), (1, 2), (2, 3), (3, 0), (1, 3)]), Stretches([(1, 3), (1, 2), (1, 4), (0, 2), (0, 0)]),
     (2, 1, 3, 1, 0)),
]


def told_asked(stretches, world, ties):
    return Stretches([(world[tie], world[tie]) if tie in ties else pair for tie, pair in enumerate(stretches.pairs)])


class Asking(unittest.TestCase):
    def test_asked(self):
        for net, stretches, world in HALF:
            before = stretches.pairs
            for ties in some(1332, subsets(range(net.many)), 12):
                found = asked(stretches, list(world), list(ties)[::-1])
                self.assertIs(type(found), Stretches)
                self.assertTrue(found == told_asked(stretches, world, ties))
                self.assertTrue(world in found)
            self.assertEqual(stretches.pairs, before)

    def test_errors(self):
        stretches = Stretches([(0, 2), (1, 1), (3, MOST)])
        check_error(self, lambda: asked(stretches, (0, 1), None), e.BadWorld, -1)
        check_error(self, lambda: asked(stretches, (3, -1, 3), [3]), e.BadWorld, 1)
        check_error(self, lambda: asked(stretches, (3, 1, 3), [0, 3]), e.BadTies, 1)
        check_error(self, lambda: asked(stretches, (3, 1, 2), []), e.NotInFamily, 0)
        check_error(self, lambda: asked(stretches, (2, 1, 2), [0]), e.NotInFamily, 2)
        self.assertTrue(asked(stretches, [2, 1, MOST], [2, 1]) == Stretches([(0, 2), (1, 1), (MOST, MOST)]))
        self.assertTrue(asked(stretches, [2, 1, MOST], []) == stretches)
        self.assertTrue(asked(Stretches([]), [], []) == Stretches([]))


class HalfPapers(unittest.TestCase):
    def cases(self):
        for net, stretches, world in HALF:
            for holders, lot in some(1333, pairs_inside(net.size), 10):
                if holders:
                    yield net, stretches, world, holders, lot

    def half_papers(self, net, stretches, world, holders, lot):
        """All half papers, by counting all worlds behind asking."""
        found = []
        for ties in subsets(stretches.unseen()):
            worlds = counted_worlds(told_asked(stretches, world, ties))
            if all(counted_holds(net, told, holders, lot) for told in worlds):
                found.append(ties)
        return found

    def test_against_a_trying_of_all_sets(self):
        some_lean = 0
        for net, stretches, world, holders, lot in self.cases():
            if not counted_holds(net, world, holders, lot):
                for call in (lambda: is_half_paper(net, stretches, world, holders, lot, []),
                             lambda: lean_half_paper(net, stretches, world, holders, lot, []),
                             lambda: forced_ties(net, stretches, world, holders, lot)):
                    with self.assertRaises(e.NotHeld):
                        call()
                continue
            papers = self.half_papers(net, stretches, world, holders, lot)
            self.assertIn(stretches.unseen(), papers)
            for ties in subsets(stretches.unseen()):
                passed = list(ties)[::-1]
                self.assertIs(is_half_paper(net, stretches, world, holders, lot, passed), ties in papers)
                self.assertEqual(ties in papers, any(lies_in(paper, ties) for paper in papers))
                filled = one_filling(net, told_asked(stretches, world, ties), holders, lot)
                self.assertIs(filled is not None, ties in papers)
                found = lean_half_paper(net, stretches, world, holders, lot, passed)
                self.assertEqual(found, self.lean(papers, ties))
                if found is not None:
                    self.assertFalse([paper for paper in papers if paper != found and lies_in(paper, found)])
                    kept = net.inner(lot) + counted_gates(net, lot)
                    self.assertTrue(all(tie in kept for tie in found))
                    some_lean += 0 < len(found) < len(ties)
            told = tuple(tie for tie in stretches.unseen() if all(tie in paper for paper in papers))
            self.assertEqual(forced_ties(net, stretches, list(world), holders, lot), told)
        self.assertGreater(some_lean, 20)

    def lean(self, papers, ties):
        if ties not in papers:
            return None
        left = ties
        for tie in ties:
            fewer = tuple(other for other in left if other != tie)
            left = fewer if fewer in papers else left
        return left

    def test_greatest_capacities(self):
        net = Twoway(3, [(0, 1), (1, 2)])
        stretches = Stretches([(MOST - 1, MOST), (0, MOST)])
        self.assertEqual(forced_ties(net, stretches, (MOST, MOST - 1), [0], [0, 1]), ())
        self.assertEqual(lean_half_paper(net, stretches, (MOST, MOST - 1), [0], [0, 1], [0, 1]), (1,))
        self.assertEqual(forced_ties(net, stretches, (MOST, MOST), [0], [0, 1]), (0,))
        self.assertEqual(lean_half_paper(net, stretches, (MOST, MOST), [0], [1, 0], []), None)
        self.assertEqual(lean_half_paper(net, stretches, (MOST, MOST), [0], [2, 1, 0], []), ())

    def test_errors(self):
        net, stretches, world = Twoway(3, [(0, 1), (1, 2), (0, 2)]), Stretches([(3, 5), (5, 5), (0, 6)]), (5, 5, 3)

        def half(ties, net=net, stretches=stretches, world=world, holders=(1,), lot=(0, 1)):
            return lambda: is_half_paper(net, stretches, world, holders, lot, ties)

        for ties, at in (([1], 0), ([0, 1], 1), ([2, 0, 1], 2), ([1, 3], 0), ([2, 2], 1), ([0, True], 1), (None, -1),
                         ("02", -1), ([0, 2, 1, 0], 2), ([3, 1], 0), ([False], 0), ([2, 0, 0, 1], 2)):
            check_error(self, half(ties), e.BadTies, at)
            for call in (lean_half_paper,):
                check_error(self, lambda: call(net, stretches, world, (1,), (0, 1), ties), e.BadTies, at)
            tree = Tree.chain([0, 1, 2])
            for call in (is_tree_paper, lean_tree_paper):
                check_error(self, lambda: call(net, stretches, world, tree, ties), e.BadTies, at)
            check_error(self, lambda: is_paper(net, stretches, world, [0], [1], [0], ties), e.BadTies, at)
        check_error(self, half([], stretches=Stretches([(0, 1)])), e.OtherSize, 1)
        check_error(self, half([], world=(2, 5, 7)), e.NotInFamily, 0)
        check_error(self, half([], world=(4, 5, 7)), e.NotInFamily, 2)
        check_error(self, half([1], world=(2, 5, 7)), e.BadTies, 0)
        check_error(self, half([], holders=(2,)), e.NotInside, 2)
        check_error(self, half([], holders=()), e.EmptyLot, "holders")
        check_error(self, half([], world=(3, 5, 6), holders=[0], lot=(0, 1)), e.NotHeld, (0,))
        check_error(self, half([], net=Twoway(9, net.ties), world=(0, 0, 0)), e.TooMany, 9)
        check_error(self, half([], net=Twoway(9, net.ties), holders=[2]), e.NotInside, 2)


class Papers(unittest.TestCase):
    def test_sides(self):
        seen = {True: 0, False: 0}
        for net, stretches, world in HALF:
            for p in range(net.size):
                for q in range(net.size):
                    for side in some(1334, counted_least(net, world, (p,), (q,)) if p != q else [], 2):
                        for ties in some(1335, subsets(stretches.unseen()), 6):
                            family = told_asked(stretches, world, ties)
                            counted = Counted(net, counted_worlds(family))
                            told = counted.serves((p,), (q,), side)
                            found = is_paper(net, stretches, list(world), [p], [q], side, ties)
                            self.assertIs(found, told)
                            halves = (is_half_paper(net, stretches, world, [p], side, ties)
                                      and is_half_paper(~net, stretches, world, [q], rest_of(net.size, side), ties))
                            self.assertIs(found, halves)
                            self.assertIs(serves(net, family, [p], [q], side), told)
                            seen[told] += 1
        self.assertGreater(min(seen.values()), 50)

    def test_sides_that_are_not_least(self):
        net, stretches = Twoway(4, [(0, 1), (1, 2), (2, 3), (0, 3)]), Stretches([(1, 3)] * 4)
        world = (3, 1, 2, 2)
        for holders, sinks in (([0], [2]), ([0, 1], [3]), ([3], [1, 2])):
            least = counted_least(net, world, holders, sinks)
            for side in sides_of(4) + [(), (0, 1, 2, 3)]:
                if side in least:
                    self.assertIs(is_paper(net, stretches, world, holders, sinks, side, (0, 1, 2, 3)), True)
                else:
                    check_error(self, lambda: is_paper(net, stretches, world, holders, sinks, side[::-1], []),
                                e.NotLeast, side)

    def test_errors(self):
        net, stretches, world = Twoway(3, [(0, 1), (1, 2), (0, 2)]), Stretches([(3, 5), (5, 5), (0, 6)]), (5, 5, 3)

        def paper(holders, sinks, side, ties=(), net=net, world=world):
            return lambda: is_paper(net, stretches, world, holders, sinks, side, ties)

        check_error(self, paper([], [], [0, 0]), e.BadLot, 1)
        check_error(self, paper([], [], [0], [1]), e.BadTies, 0)
        check_error(self, paper([], [], [0]), e.EmptyLot, "holders")
        check_error(self, paper([0], [], [0]), e.EmptyLot, "sinks")
        check_error(self, paper([0, 2], [2, 0], [0]), e.Meeting, 0)
        check_error(self, paper([0], [2], [0], world=(1, 5, 7)), e.NotInFamily, 0)
        check_error(self, paper([0], [2], [0], net=Twoway(9, net.ties), world=(1, 5, 7)), e.TooMany, 9)
        check_error(self, paper([0], [2], [2, 1]), e.NotLeast, (1, 2))


class TreePapers(unittest.TestCase):
    def papers(self, net, stretches, world, edges):
        """All papers for the tree, by counting all worlds behind asking."""
        found = []
        for ties in subsets(stretches.unseen()):
            if edges in one_trees(net, counted_worlds(told_asked(stretches, world, ties))):
                found.append(ties)
        return found

    def test_against_a_trying_of_all_sets(self):
        sizes = {}
        for net, stretches, world in TREES:
            for edges in some(1336, Wood(net, world).trees(), 2):
                tree = Tree(net.size, edges)
                papers = self.papers(net, stretches, world, edges)
                self.assertIn(stretches.unseen(), papers)
                for ties in subsets(stretches.unseen()):
                    self.assertIs(is_tree_paper(net, stretches, list(world), tree, ties[::-1]), ties in papers)
                    told = HalfPapers.lean(self, papers, ties)
                    self.assertEqual(lean_tree_paper(net, stretches, world, tree, list(ties)), told)
                    sides = all(is_paper(net, stretches, world, [p], [q], tree.side(at), ties)
                                for at, (p, q) in enumerate(tree))
                    self.assertIs(sides, ties in papers)
                fewest = [ties for ties in papers if len(ties) == min(map(len, papers))]
                self.assertEqual(fewest_tree_paper(net, stretches, world, tree), min(fewest))
                self.assertIs(() in papers, is_one_tree(net, stretches, tree))
                sizes[len(min(fewest))] = True
        self.assertGreaterEqual(len(sizes), 3)

    def test_some_cut_tree(self):
        for net, stretches, world in TREES:
            trees = cut_trees(net, world)
            last = {}
            for ties in subsets(stretches.unseen()):
                family = asked(stretches, world, ties)
                many = sides_number(net, family)
                found = [tree for tree in trees if is_tree_paper(net, stretches, world, tree, ties)]
                self.assertIs(many == net.size - 1, bool(found))
                if found:
                    self.assertEqual(cut_trees(net, family.middle()), [tree for tree in trees if tree in found])
                last[ties] = many
                for tie in ties:
                    self.assertGreaterEqual(many, last[tuple(other for other in ties if other != tie)])

    def test_eight_unknown_ties_and_nine(self):
        ties = [(p, (p + 1) % 4) for p in range(4)] * 2 + [(0, 2)]
        net, world = Twoway(4, ties), [2, 3, 4, 5, 2, 3, 4, 5, 1]
        tree = cut_tree(net, world)
        stretches = Stretches([(0, u + 1) for u in world[:8]] + [(1, 1)])
        found = fewest_tree_paper(net, stretches, world, tree)
        self.assertTrue(is_tree_paper(net, stretches, world, tree, found))
        for many in range(len(found)):
            for fewer in [ties for ties in subsets(range(8)) if len(ties) == many]:
                self.assertFalse(is_tree_paper(net, stretches, world, tree, fewer))
        nine = Stretches([(0, u + 1) for u in world])
        check_error(self, lambda: fewest_tree_paper(net, nine, world, tree), e.TooMany, 9)
        check_error(self, lambda: fewest_tree_paper(net, nine, [99] * 9, tree), e.TooMany, 9)
        check_error(self, lambda: fewest_tree_paper(net, stretches, [2, 9, 4, 5, 2, 3, 4, 5, 1], tree), e.NotInFamily, 1)
        self.assertIs(is_tree_paper(net, nine, world, tree, range_list(9)), True)

    def test_few_places_and_many(self):
        net, stretches = Twoway(1, [(0, 0)]), Stretches([(0, MOST)])
        self.assertEqual(fewest_tree_paper(net, stretches, [7], Tree(1, [])), ())
        self.assertEqual(lean_tree_paper(net, stretches, [7], Tree(1, []), [0]), ())
        self.assertIs(is_tree_paper(Twoway(2, [(0, 1)]), stretches, [7], Tree(2, [(0, 1)]), []), True)
        self.assertEqual(forced_ties(net, stretches, [7], [0], [0]), ())

    def test_errors(self):
        net, stretches, world = Twoway(3, [(0, 1), (1, 2), (0, 2)]), Stretches([(3, 5), (5, 5), (0, 6)]), (5, 5, 3)
        big = Twoway(9, net.ties)
        for call in (lambda *more: is_tree_paper(*more, []), lambda *more: lean_tree_paper(*more, []),
                     fewest_tree_paper):
            check_error(self, lambda: call(Oneway(3, net.ties), Stretches([]), None, Tree(1, [])), e.NotTwoway)
            check_error(self, lambda: call(net, Stretches([]), None, Tree(1, [])), e.OtherSize, 0)
            check_error(self, lambda: call(net, stretches, None, Tree(1, [])), e.BadWorld, -1)
            check_error(self, lambda: call(net, stretches, (2, 5, 3), Tree(1, [])), e.OtherSize, 1)
            check_error(self, lambda: call(big, stretches, (2, 5, 3), Tree.star(9, 0)), e.TooMany, 9)
            check_error(self, lambda: call(net, stretches, (2, 5, 7), Tree.star(3, 0)), e.NotInFamily, 0)
            check_error(self, lambda: call(net, stretches, world, Tree.star(3, 0)), e.NotACutTree, 0)
        for edges in counted_trees(3):
            wrong = Wood(net, world).first_wrong(edges)
            if wrong is not None:
                check_error(self, lambda: fewest_tree_paper(net, stretches, world, Tree(3, edges)), e.NotACutTree, wrong)


class OneFilling(unittest.TestCase):
    def test_a_half_paper_is_a_filling_for_all_worlds(self):
        for net, stretches, world in HALF[:10]:
            for holders, lot in some(1337, pairs_inside(net.size), 6):
                if holders and counted_holds(net, world, holders, lot):
                    for ties in subsets(stretches.unseen()):
                        family = asked(stretches, world, ties)
                        self.assertIs(always_holds(net, family, holders, lot),
                                      is_half_paper(net, stretches, world, holders, lot, ties))


def range_list(many):
    return list(range(many))


if __name__ == "__main__":
    unittest.main()
