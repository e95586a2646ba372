"""[121] to [123]: sides that are cheapest of all, against a counting of all sides in all worlds."""

import unittest
from random import Random

from leastgates import errors as e
from leastgates.cuttrees import cut_tree
from leastgates.families import Listed, Told
from leastgates.nets import Oneway, Twoway
from leastgates.ranks import ranks
from leastgates.steps import first_grove, full_grove, refine
from leastgates.stretches import Stretches
from leastgates.wholeleast import is_whole_least, whole_chain, whole_cost, whole_edge, whole_least
from tests.support import between_ties, check_error, counted_cost, less, lies_in, meet, rest_of, sides_of, union
from tests.woods import MOST, Wood, crossing, settled_two, serves_two, two_cases, two_families, web_families
from tests.worlds import Counted, counted_middle, counted_worlds, random_stretches

CASES = two_families(1210, 5, least=1, most=5, ties=7) + web_families(1211, 4, most=5)


def counted_whole(counted):
    """All whole-least sides, by size."""
    sides = sides_of(counted.size)
    return [side for side in sides if all(counted.never_dearer(side, other) for other in sides)]


class WholeLeast(unittest.TestCase):
    def test_against_a_counting(self):
        none = some_found = 0
        for net, family, worlds, counted in CASES:
            told = counted_whole(counted)
            none += not told
            some_found += bool(told)
            for side in sides_of(net.size):
                self.assertIs(is_whole_least(net, family, list(side)[::-1]), side in told)
            found = whole_least(net, family)
            self.assertEqual((type(found), found), (list, [side for side in told if 0 in side]))
        self.assertGreater(min(none, some_found), 10)

    def test_what_they_are(self):
        for net, family, worlds, counted in CASES:
            told = counted_whole(counted)
            turned = counted.turned()
            for side in sides_of(net.size):
                rest = rest_of(net.size, side)
                holding = counted.holders(side) == side and turned.holders(rest) == rest
                self.assertIs(holding, side in told)
                self.assertIs(rest in told, side in told)
                if side in told:
                    self.assertTrue(counted.alike(side, told[0]))
                    self.assertTrue(all(serves_two(counted, side, p, q) for p in side for q in rest))

    def test_where_they_are_found(self):
        for net, family, worlds, counted in CASES:
            if net.size == 1:
                continue
            told = counted_whole(counted)
            for grove in (full_grove(net, family), full_grove(net, family, last=True)):
                self.assertIs(any(side in told for side in grove.side_list()), bool(told))
            middle = Wood(net, counted_middle(family))
            least = min(middle.costs[side] for side in sides_of(net.size))
            cheapest = [side for side in sides_of(net.size) if middle.costs[side] == least]
            self.assertIn(told, ([], cheapest))
            tree = cut_tree(net, middle.world)
            sides = [tree.side(at) for at in range(len(tree)) if middle.costs[tree.side(at)] == least]
            self.assertTrue(all((side in told) == bool(told) for side in sides))

    def test_costs(self):
        for net, world in two_cases(1212, 30, least=1, most=6, ties=9):
            costs = [counted_cost(net, world, side) for side in sides_of(net.size)]
            self.assertEqual(whole_cost(net, list(world)), min(costs) if costs else None)
            if net.size > 1:
                self.assertEqual(whole_cost(net, world), ranks(net, world)[0])

    def test_edges_of_groves(self):
        random = Random(1213)
        for net, family, worlds, counted in CASES:
            told = counted_whole(counted)
            grove = first_grove(net, family)
            while True:
                sides = [at for at, side in enumerate(grove.side_list()) if side in told]
                self.assertEqual(whole_edge(grove), sides[0] if sides else None)
                pairs = [(p, q) for p, q in settled_two(counted) if grove.lot_at(p) == grove.lot_at(q)]
                if not pairs:
                    break
                grove = refine(grove, *random.choice(pairs))
            self.assertIs(whole_edge(grove) is None, not told)

    def test_few_places_and_many(self):
        for family in (Told((2,)), Stretches([(0, 3)]), Listed((1,), (2,))):
            net = Twoway(1, [(0, 0)])
            self.assertEqual((whole_least(net, family), whole_edge(first_grove(net, family))), ([], None))
            check_error(self, lambda: is_whole_least(net, family, [0]), e.NotASide)
            self.assertEqual(whole_least(Twoway(2, [(0, 1)]), family), [(0,)])
        self.assertIsNone(whole_cost(Twoway(1, []), []))
        self.assertEqual(whole_cost(Twoway(2, [(0, 1), (1, 0)]), [MOST, MOST]), 2 * MOST)
        self.assertEqual(whole_cost(Twoway(8, []), []), 0)
        self.assertEqual(len(whole_least(Twoway(8, []), Told(()))), 127)
        for call in (lambda net: whole_cost(net, ()), lambda net: whole_least(net, Told(())),
                     lambda net: is_whole_least(net, Told(()), [1])):
            check_error(self, lambda: call(Twoway(9, [])), e.TooMany, 9)
        check_error(self, lambda: is_whole_least(Twoway(9, []), Told(()), []), e.NotASide)


class Crossing(unittest.TestCase):
    def test_sides_that_cross(self):
        seen = 0
        for net, family, worlds, counted in CASES:
            told = counted_whole(counted)
            dead = [tie for tie in range(net.many) if all(world[tie] == 0 for world in worlds)]
            for one in told:
                for other in told:
                    corners = (meet(one, other), less(one, other), less(other, one),
                               rest_of(net.size, union(one, other)))
                    if all(corners):
                        seen += 1
                        self.assertTrue(all(corner in told for corner in corners))
                        ties = between_ties(net, corners[0], corners[3]) + between_ties(net, corners[1], corners[2])
                        self.assertTrue(all(tie in dead for tie in ties))
        self.assertGreater(seen, 20)

    def test_a_ring_seen_at_1(self):
        net = Twoway(4, [(0, 1), (1, 2), (2, 3), (3, 0)])
        found = whole_least(net, Stretches.seen_at([1] * 4))
        self.assertIn((0, 1), found)
        self.assertTrue(is_whole_least(net, Told([1] * 4), [1, 2]))
        self.assertTrue(crossing(4, (0, 1), (1, 2)))

    def test_chains(self):
        random = Random(1230)
        longest = 0
        for at in range(120):
            size = random.randint(1, 5)
            ties = [(random.randrange(size), random.randrange(size)) for _ in range(random.randint(1, 7))]
            stretches = random_stretches(random, len(ties), 3, 2)
            if at % 3 == 0:
                # A ring whose seen ties cost the same and more than the unseen one.
                order = random.sample(range(size), size)
                ties = [(order[number - 1], order[number]) for number in range(size)]
                stretches = Stretches([(random.randint(0, 1), 2)] + [(2, 2)] * (size - 1))
            net = Twoway(size, ties)
            told = counted_whole(Counted(net, counted_worlds(stretches)))
            for tie, (first, second) in enumerate(net.ties):
                low, high = stretches.pairs[tie]
                if low == high:
                    check_error(self, lambda: whole_chain(net, stretches, tie), e.BadTie, "tie")
                    continue
                chain = whole_chain(net, stretches, tie)
                self.assertEqual((type(chain), chain),
                                 (list, [side for side in told if first in side and second not in side]))
                for one, other in zip(chain, chain[1:]):
                    self.assertTrue(lies_in(one, other))
                self.assertLessEqual(len(chain), max(0, size - 1))
                gated = [side for side in told if (first in side) != (second in side)]
                self.assertIn(len(gated), (0, len(told)))
                longest = max(longest, len(chain))
        self.assertGreater(longest, 2)

    def test_a_whole_chain(self):
        net = Twoway(8, [(p, p + 1) for p in range(7)] + [(0, 7), (3, 3)])
        stretches = Stretches([(MOST, MOST)] * 7 + [(0, MOST), (0, 1)])
        told = [tuple(range(many)) for many in range(1, 8)]
        self.assertEqual(whole_chain(net, stretches, 7), told)
        self.assertEqual(whole_chain(net, stretches, 8), [])
        for tie in (0, 9, -1, True, None, "7"):
            check_error(self, lambda: whole_chain(net, stretches, tie), e.BadTie, "tie")
        check_error(self, lambda: whole_chain(Oneway(9, []), stretches, None), e.NotTwoway)
        check_error(self, lambda: whole_chain(Twoway(9, []), stretches, None), e.OtherSize, 9)
        big = Twoway(9, [(0, 1), (1, 2)])
        check_error(self, lambda: whole_chain(big, Stretches([(0, 1), (1, 1)]), 1), e.BadTie, "tie")
        check_error(self, lambda: whole_chain(big, Stretches([(0, 1), (1, 1)]), 0), e.TooMany, 9)


if __name__ == "__main__":
    unittest.main()
