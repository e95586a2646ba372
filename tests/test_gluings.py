"""[11], [124], [125]: families and trees of glued nets."""

import unittest
from random import Random

from leastgates import errors as e
from leastgates.changes import Losses, Moves
from leastgates.cuttrees import cut_tree, is_cut_tree, least_total
from leastgates.families import Either, Listed, Told, either
from leastgates.gluings import cut_family, trees_glued
from leastgates.groves import Grove
from leastgates.nets import Twoway
from leastgates.onetree import is_one_tree, one_tree
from leastgates.papers import is_tree_paper
from leastgates.rooms import room
from leastgates.serving import settled_pairs
from leastgates.splits import sides_number
from leastgates.steps import full_grove
from leastgates.stretches import Stretches
from leastgates.trees import Tree
from tests.support import check_error, counted_cost, random_net, sides_of, subsets
from tests.woods import MOST, Wood, one_trees, random_edges, serves_two
from tests.worlds import KINDS, Counted, counted_worlds, random_family, random_stretches


def glued_cases(seed, count, least=1, most=3, ties=4):
    """Nets N and N', a family over the ties of both, and N + N'."""
    random = Random(seed)
    found = []
    for word in KINDS * count:
        nets = [random_net(random, random.randint(least, most), random.randint(1, ties), Twoway) for _ in range(2)]
        family = random_family(random, nets[0].many + nets[1].many, word, 2)
        found.append((nets[0], nets[1], family, nets[0] + nets[1]))
    return found


CASES = glued_cases(1240, 6) + glued_cases(1241, 3, least=3)


class CutFamilies(unittest.TestCase):
    def test_each_kind(self):
        world, more = (4, 1, 0, 2), [3, 3, 3, 3]
        pairs = ((0, 1), (2, 2), (1, 5), (0, 0))
        for first in range(5):
            for last in range(first, 5):
                told = Told(world[first:last])
                listed = Listed(world[first:last], more[first:last])
                self.assertTrue(cut_family(Told(world), first, last) == told)
                self.assertTrue(cut_family(Listed(world, more), first, last) == listed)
                self.assertTrue(cut_family(Stretches(pairs), first, last) == Stretches(pairs[first:last]))
                self.assertTrue(cut_family(Losses(world, 3), first, last) == Losses(world[first:last], 3))
                self.assertTrue(cut_family(Moves(world, 7), first, last) == Moves(world[first:last], 7))
                both = Told(world) | (Moves(world, 2) | Listed(world, more)) | Losses(more, 0)
                found = cut_family(both, first, last)
                want = told | (Moves(world[first:last], 2) | listed) | Losses(more[first:last], 0)
                self.assertTrue(found == want)
                self.assertEqual((found.many, found.one.other.one.change), (last - first, 2))

    def test_classes_and_worlds(self):
        random = Random(1242)
        for word in KINDS * 4:
            family = random_family(random, 5, word, 2)
            for first, last in ((0, 5), (1, 4), (2, 2), (0, 3), (3, 5), (5, 5)):
                found = cut_family(family, first, last)
                self.assertIs(type(found), type(family))
                self.assertEqual((found.many, found.WORD), (last - first, family.WORD))
                self.assertEqual(counted_worlds(found), sorted({world[first:last] for world in counted_worlds(family)}))
            self.assertTrue(cut_family(family, 0, 5) == family)
            self.assertEqual(cut_family(family, 4, 4).middle(), ())

    def test_a_family_over_no_ties(self):
        for family in (Told(()), Listed((), ()), Stretches([]), Losses((), 1), Moves((), 2), Told(()) | Stretches([])):
            self.assertTrue(cut_family(family, 0, 0) == family)
            check_error(self, lambda: cut_family(family, 1, 1), e.BadNumber, "first")
            check_error(self, lambda: cut_family(family, 0, 1), e.BadNumber, "last")

    def test_long_chains(self):
        parts = [Told((at % 3, at % 5)) for at in range(700)]
        chain = either(*parts)
        found = cut_family(chain, 1, 2)
        self.assertTrue(found == either(*[Told((at % 5,)) for at in range(700)]))
        other = parts[0]
        for part in parts[1:]:
            other = Either(part, other)
        self.assertEqual(cut_family(other, 0, 1).middle(), (sum(at % 3 for at in range(700)),))

    def test_errors(self):
        family = Moves((1, 2, 3), 2)
        for value in (-1, 4, True, None, "1", [0], 1.0, 10 ** 30):
            check_error(self, lambda: cut_family(family, value, None), e.BadNumber, "first")
            check_error(self, lambda: cut_family(family, 0, value), e.BadNumber, "last")
        check_error(self, lambda: cut_family(family, 2, 1), e.BadNumber, "last")
        self.assertEqual(cut_family(family, 3, 3).many, 0)


class GluedNets(unittest.TestCase):
    def test_costs(self):
        random = Random(1243)
        for net, other, family, glued in CASES:
            world = random.choice(counted_worlds(family))
            for side in subsets(range(glued.size)):
                here = tuple(p for p in side if p < net.size)
                there = tuple(p - net.size + 1 for p in side if p >= net.size - 1)
                self.assertEqual(counted_cost(glued, world, side),
                                 counted_cost(net, world[:net.many], here) + counted_cost(other, world[net.many:],
                                                                                          there))

    def test_settled_pairs_and_sides(self):
        for net, other, family, glued in CASES:
            whole = Counted(glued, counted_worlds(family))
            for part, first, last, by in ((net, 0, net.many, 0), (other, net.many, family.many, net.size - 1)):
                cut = cut_family(family, first, last)
                counted = Counted(part, counted_worlds(cut))
                told = [(p + by, q + by) for p, q in settled_pairs(part, cut)]
                inside = range(by, by + part.size)
                self.assertEqual([pair for pair in settled_pairs(glued, family)
                                  if pair[0] in inside and pair[1] in inside], told)
                for side in sides_of(part.size):
                    following = self.following(part, side, by, net, glued)
                    for p in range(part.size):
                        for q in range(p):
                            self.assertIs(serves_two(whole, following, p + by, q + by),
                                          serves_two(counted, side, p, q))

    def following(self, part, side, by, net, glued):
        """The side of the glued net that costs the same: the other net lies with the common place."""
        moved = [p + by for p in side]
        common = net.size - 1
        others = range(net.size, glued.size) if by == 0 and part is net else range(net.size - 1)
        return tuple(sorted(moved + [p for p in others if p not in moved] * (common in moved)))

    def test_sides_numbers_and_groves(self):
        for net, other, family, glued in CASES:
            here, there = cut_family(family, 0, net.many), cut_family(family, net.many, family.many)
            self.assertEqual(sides_number(glued, family), sides_number(net, here) + sides_number(other, there))
            one, two = full_grove(net, here), full_grove(other, there)
            by = net.size - 1
            common = one.lot_at(by)
            lots = [list(lot) for lot in one.lots]
            numbers = []
            for lot in two.lots:
                moved = [p + by for p in lot]
                if by in moved:
                    numbers.append(common)
                    lots[common] = sorted(set(lots[common] + moved))
                else:
                    numbers.append(len(lots))
                    lots.append(moved)
            edges = list(one.edges) + [(numbers[i], numbers[j]) for i, j in two.edges]
            posts = list(one.posts) + [(a + by, b + by) for a, b in two.posts]
            self.assertTrue(Grove(glued, family, lots, edges, posts).is_full())

    def test_leaves(self):
        random = Random(1244)
        for net, _, family, _ in CASES:
            family = cut_family(family, 0, net.many)
            for more in (0, 1, 3):
                place = random.randrange(net.size)
                ties = [(net.size, place)[::random.choice((1, -1))] for _ in range(more)] + [(net.size, net.size)]
                bigger = Twoway(net.size + 1, ties + list(net.ties))
                told = [tuple(random.randint(0, 2) for _ in ties) + world for world in counted_worlds(family)]
                self.assertEqual(sides_number(bigger, Listed.of_list(told)), 1 + sides_number(net, family))


class GluedTrees(unittest.TestCase):
    def test_trees(self):
        random = Random(1250)
        for _ in range(40):
            size, other = random.randint(1, 6), random.randint(1, 6)
            one, two = Tree(size, random_edges(random, size)), Tree(other, random_edges(random, other))
            found = trees_glued(one, two)
            edges = sorted(list(one.edges) + [(p + size - 1, q + size - 1) for p, q in two.edges])
            self.assertEqual((found.size, found.edges), (size + other - 1, tuple(edges)))

    def test_twelve_places_and_thirteen(self):
        self.assertEqual(trees_glued(Tree.star(7, 0), Tree.star(6, 0)).size, 12)
        self.assertEqual(trees_glued(Tree.star(12, 0), Tree(1, [])), Tree.star(12, 0))
        self.assertEqual(trees_glued(Tree(1, []), Tree.star(12, 3)), Tree.star(12, 3))
        self.assertEqual(trees_glued(Tree(1, []), Tree(1, [])), Tree(1, []))
        for one, other in ((7, 7), (12, 2), (2, 12), (12, 12)):
            check_error(self, lambda: trees_glued(Tree.star(one, 0), Tree.star(other, 0)), e.BadNumber, "size")

    def test_one_tree(self):
        seen = 0
        for net, other, family, glued in CASES:
            here, there = cut_family(family, 0, net.many), cut_family(family, net.many, family.many)
            one, two = one_tree(net, here), one_tree(other, there)
            self.assertIs(one_tree(glued, family) is not None, one is not None and two is not None)
            if one is not None and two is not None:
                self.assertTrue(is_one_tree(glued, family, trees_glued(one, two)))
                self.assertIn(trees_glued(one, two).edges, one_trees(glued, counted_worlds(family)))
                seen += 1
        self.assertGreater(seen, 10)

    def test_least_totals_and_rooms(self):
        random = Random(1251)
        for net, other, family, glued in CASES:
            world = [random.randint(0, 4) for _ in range(glued.many)]
            here, there = world[:net.many], world[net.many:]
            self.assertEqual(least_total(glued, world), least_total(net, here) + least_total(other, there))
            one, two = cut_tree(net, here), cut_tree(other, there)
            both = trees_glued(one, two)
            self.assertTrue(is_cut_tree(glued, world, both))
            self.assertIsNone(Wood(glued, world).first_wrong(both.edges))
            rooms = [found for found in (room(net, here, one), room(other, there, two)) if found is not None]
            self.assertEqual(room(glued, world, both), min(rooms, default=None))

    def test_papers(self):
        random = Random(1252)
        for net, other, _, glued in CASES:
            stretches = random_stretches(random, glued.many, 3, 4)
            world = [random.randint(low, high) for low, high in stretches.pairs]
            here, there = world[:net.many], world[net.many:]
            one, two = cut_tree(net, here), cut_tree(other, there)
            first = cut_family(stretches, 0, net.many)
            second = cut_family(stretches, net.many, glued.many)
            for ties in subsets(stretches.unseen()):
                split = [tie for tie in ties if tie < net.many], [tie - net.many for tie in ties if tie >= net.many]
                told = (is_tree_paper(net, first, here, one, split[0])
                        and is_tree_paper(other, second, there, two, split[1]))
                self.assertIs(is_tree_paper(glued, stretches, world, trees_glued(one, two), ties), told)

    def test_greatest_capacities(self):
        net = Twoway(4, [(p, p + 1) for p in range(3)] + [(0, 3)])
        chain = Tree.chain(list(range(4)))
        both = trees_glued(chain, chain)
        self.assertEqual(both, Tree.chain(list(range(7))))
        world = [MOST, MOST, MOST, 0] + [2 * MOST, MOST, MOST, 1]
        self.assertTrue(is_cut_tree(net + net, world, both))
        self.assertEqual(room(net + net, world, both), MOST - 1)


if __name__ == "__main__":
    unittest.main()
