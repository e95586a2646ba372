"""[106] to [109], [116], [120]: groves made finer, and full groves from any start."""

import unittest
from random import Random

from leastgates import errors as e
from leastgates.families import Told
from leastgates.groves import Grove
from leastgates.nets import Oneway, Twoway
from leastgates.splits import matched
from leastgates.steps import first_grove, full_grove, refine
from leastgates.stretches import Stretches
from tests.support import check_error, less, lies_in, meet, rest_of
from tests.woods import (MOST, grove_side, narrowed_families, serves_two, settled_two, two_families,
                         web_families)

CASES = two_families(1070, 5, least=1, most=5, ties=9) + web_families(1071, 5, most=5)


def parts_of_grove(grove):
    return grove.lots, grove.edges, grove.posts


def inside_pairs(grove, pairs):
    return [(p, q) for p, q in pairs if grove.lot_at(p) == grove.lot_at(q)]


class Refined(unittest.TestCase):
    def test_first_groves(self):
        for net, family, worlds, counted in CASES:
            grove = first_grove(net, family)
            self.assertIs(type(grove), Grove)
            self.assertEqual(parts_of_grove(grove), ((counted.whole,), (), ()))
            self.assertTrue(grove.net == net and grove.family == family)

    def test_steps_in_any_order(self):
        random = Random(107)
        for net, family, worlds, counted in CASES:
            settled = settled_two(counted)
            for _ in range(3):
                grove = first_grove(net, family)
                while inside_pairs(grove, settled):
                    one, other = random.choice(inside_pairs(grove, settled))[::random.choice((1, -1))]
                    finer = refine(grove, one, other)
                    self.check(grove, finer, one, other, counted)
                    grove = finer
                self.assertTrue(grove.is_full())
                self.assertIsNotNone(matched(grove, full_grove(net, family)))

    def check(self, grove, finer, one, other, counted):
        """[107], with the side of the new edge for Y."""
        size = counted.size
        at = self.new_edge(finer, one, other)
        first = finer.lot_at(one)
        y = grove_side(finer.lots, finer.edges, at, first)
        self.assertTrue(serves_two(counted, y, one, other))
        a = grove.lots[grove.lot_at(one)]
        inside, outside = meet(a, y), less(a, y)
        kept = [lot for lot in grove.lots if lot != a]
        self.assertEqual(sorted(finer.lots), sorted(kept + [inside, outside]))
        edges = [(inside, outside, one, other)]
        for number, (i, j) in enumerate(grove.edges):
            ends = grove.posts[number]
            for (here, there), (own, post) in (((i, j), ends), ((j, i), ends[::-1])):
                x = grove_side(grove.lots, grove.edges, number, there)
                if grove.lots[here] == a:
                    end = inside if lies_in(x, y) else outside
                    instead = one if end == inside else other
                    edges.append((end, grove.lots[there], own if own in end else instead, post))
                    self.assertTrue(lies_in(x, y) or not meet(x, y))
            if grove.lots[i] != a and grove.lots[j] != a:
                edges.append((grove.lots[i], grove.lots[j]) + ends)
        found = [(finer.lots[i], finer.lots[j]) + ends for (i, j), ends in zip(finer.edges, finer.posts)]
        self.assertEqual(sorted(map(self.sorted_edge, found)), sorted(map(self.sorted_edge, edges)))
        sides = [side for at in range(finer.many) for side in (finer.side(at), rest_of(size, finer.side(at)))]
        self.assertTrue(all(side in sides for side in grove.side_list()))

    def new_edge(self, finer, one, other):
        pairs = (finer.lot_at(one), finer.lot_at(other))
        return finer.edges.index((min(pairs), max(pairs)))

    def sorted_edge(self, edge):
        first, second, one, other = edge
        return min(edge, (second, first, other, one))

    def test_errors(self):
        net, family = Twoway(4, [(0, 1), (1, 2), (2, 3), (0, 3)]), Told((1, 2, 3, 4))
        grove = refine(first_grove(net, family), 0, 1)
        for place in (-1, 4, True, None, "1", [1]):
            check_error(self, lambda: refine(grove, place, None), e.BadPlace, "one")
            check_error(self, lambda: refine(grove, 0, place), e.BadPlace, "other")
        check_error(self, lambda: refine(grove, 1, 1), e.SamePlace, 1)
        check_error(self, lambda: refine(grove, 0, 1), e.NotOneLot, 0, 1)
        check_error(self, lambda: refine(grove, 1, 0), e.NotOneLot, 1, 0)
        ring = Twoway(3, [(0, 1), (1, 2), (0, 2)])
        first = first_grove(ring, Stretches([(0, 1)] * 3))
        check_error(self, lambda: refine(first, 2, 0), e.NotSettled, 2, 0)
        check_error(self, lambda: first_grove(Twoway(9, []), Told(())), e.TooMany, 9)
        check_error(self, lambda: first_grove(Oneway(2, []), Told((1,))), e.NotTwoway)
        check_error(self, lambda: first_grove(Twoway(9, []), Told((1,))), e.OtherSize, 1)

    def test_the_given_grove_does_not_change(self):
        for net, family, worlds, counted in CASES[:12]:
            grove = first_grove(net, family)
            for p, q in settled_two(counted)[:1]:
                before = parts_of_grove(grove)
                refine(grove, p, q)
                self.assertEqual(parts_of_grove(grove), before)


class FullGroves(unittest.TestCase):
    def by_steps(self, grove, settled, last):
        while inside_pairs(grove, settled):
            grove = refine(grove, *inside_pairs(grove, settled)[-1 if last else 0])
        return grove

    def test_they_come_from_steps(self):
        for net, family, worlds, counted in CASES:
            settled = settled_two(counted)
            for last in (False, True):
                told = self.by_steps(first_grove(net, family), settled, last)
                self.assertEqual(parts_of_grove(full_grove(net, family, last=last)), parts_of_grove(told))
            self.assertEqual(parts_of_grove(full_grove(net, family)),
                             parts_of_grove(self.by_steps(first_grove(net, family), settled, False)))

    def test_from_any_start(self):
        random = Random(108)
        for net, family, worlds, counted in CASES:
            settled = settled_two(counted)
            grove, starts = first_grove(net, family), []
            while inside_pairs(grove, settled):
                starts.append(grove)
                grove = refine(grove, *random.choice(inside_pairs(grove, settled)))
            for start in starts + [grove]:
                last = random.choice((True, False))
                found = full_grove(net, family, start=start, last=last)
                self.assertEqual(parts_of_grove(found), parts_of_grove(self.by_steps(start, settled, last)))
                self.check_refines(start, found)
                self.assertIsNotNone(matched(found, full_grove(net, family)))

    def check_refines(self, start, found):
        size = found.net.size
        sides = [two for side in found.side_list() for two in (side, rest_of(size, side))]
        self.assertTrue(all(side in sides for side in start.side_list()))

    def test_from_a_start_with_another_family(self):
        random = Random(109)
        refused = 0
        for net, family, worlds, counted in CASES:
            wide = full_grove(net, family)
            for narrow in narrowed_families(random, family, worlds):
                found = full_grove(net, narrow, start=wide)
                self.check_refines(wide, found)
                self.assertTrue(found.family == narrow and found.is_full())
                self.assertIsNotNone(matched(found, full_grove(net, narrow)))
                self.assertGreaterEqual(found.many, wide.many)
                refused += self.check_back(net, family, counted, full_grove(net, narrow, last=True))
        self.assertGreater(refused, 20)

    def check_back(self, net, family, counted, start):
        """A grove in a smaller family as a start: refused for its first edge whose side does not serve."""
        for at, ends in enumerate(start.posts):
            if not serves_two(counted, start.side(at), *ends):
                check_error(self, lambda: full_grove(net, family, start=start), e.NotServing, start.side(at))
                return True
        self.check_refines(start, full_grove(net, family, start=start))
        return False

    def test_greater_nets(self):
        random = Random(110)
        for size in (6, 7, 8) * 3:
            net = Twoway(size, [(random.randrange(size), random.randrange(size)) for _ in range(16)])
            world = [random.choice((0, 1, 2, 5, MOST)) for _ in net.ties]
            for family in (Told(world), Stretches([(u, u + random.choice((0, 0, 1, 3))) for u in world])):
                groves = [full_grove(net, family), full_grove(net, family, last=True)]
                self.assertTrue(all(grove.is_full() for grove in groves))
                self.assertIsNotNone(matched(*groves))
                self.assertEqual(list(groves[0].told_pairs()), list(groves[1].told_pairs()))
                self.assertTrue(family.WORD != "told" or groves[0].many == size - 1)

    def test_errors(self):
        net, other = Twoway(3, [(0, 1), (1, 2)]), Twoway(3, [(0, 1), (2, 1)])
        start = full_grove(net, Told((1, 2)))
        check_error(self, lambda: full_grove(other, Told((1, 2)), start=start), e.OtherKind)
        check_error(self, lambda: full_grove(other, Told((1,)), start=start), e.OtherSize, 1)
        check_error(self, lambda: full_grove(Oneway(3, net.ties), Told((1,)), start=start), e.NotTwoway)
        check_error(self, lambda: full_grove(Twoway(9, net.ties), Told((1, 2)), start=start), e.OtherKind)
        check_error(self, lambda: full_grove(Twoway(9, net.ties), Told((1, 2))), e.TooMany, 9)
        same = full_grove(Twoway(3, [[0, 1], [1, 2]]), Told((1, 2)), start=start)
        self.assertEqual(parts_of_grove(same), parts_of_grove(start))


if __name__ == "__main__":
    unittest.main()
