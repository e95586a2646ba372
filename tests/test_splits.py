"""[109], [112] to [114], [116], [117]: the sides of full groves, against a counting of all sides and pairs."""

import unittest
from itertools import combinations
from random import Random

from leastgates import errors as e
from leastgates.cuttrees import least_total
from leastgates.families import Listed, Told
from leastgates.groves import Grove
from leastgates.nets import Oneway, Twoway
from leastgates.onetree import middle_tree, one_tree
from leastgates.serving import settled_pairs
from leastgates.shapes import shrunk
from leastgates.splits import common_tree, grove_from, matched, parts_number, sides_number, thinned_tree
from leastgates.steps import first_grove, full_grove, refine
from leastgates.stretches import Stretches
from leastgates.trees import Tree
from tests.support import check_error, less, rest_of, sides_of, some
from tests.woods import (MOST, Wood, counted_side, crossing, kept_serving, narrowed_families, one_trees, serves_two,
                         settled_two, two_families, web_families)
from tests.worlds import Counted, counted_middle, counted_worlds

CASES = two_families(1120, 4, least=1, most=4, ties=7) + web_families(1121, 5) + web_families(1122, 1, 5, 5)


def parts_of_grove(grove):
    return grove.lots, grove.edges, grove.posts


def pairs_by_side(counted):
    """The settled pairs in lists, those with alike serving sides together."""
    rows = []
    for p, q in settled_two(counted):
        side = kept_serving(counted, p, q)[0]
        for first, pairs in rows:
            if counted.alike(first, side):
                pairs.append((p, q))
                break
        else:
            rows.append((side, [(p, q)]))
    return [pairs for _, pairs in rows]


def counted_parts(counted):
    """The sides number by the words of [109]."""
    return sum(blocks_of(pairs) for pairs in pairs_by_side(counted))


def blocks_of(pairs):
    """The number of blocks less 1, over all sets of joined places, for pairs with alike sides."""
    total = 0
    ahead = sorted({place for pair in pairs for place in pair})
    while ahead:
        joined = {ahead[0]}
        while any(len(joined & set(pair)) == 1 for pair in pairs):
            joined |= {place for pair in pairs if joined & set(pair) for place in pair}
        blocks = {frozenset(q for q in joined if q == p or (min(p, q), max(p, q)) not in pairs) for p in joined}
        assert sum(map(len, blocks)) == len(joined)
        total += len(blocks) - 1
        ahead = [place for place in ahead if place not in joined]
    return total


def served_pairs(counted, side):
    return {pair for pair in combinations(range(counted.size), 2) if serves_two(counted, side, *pair)}


class Numbers(unittest.TestCase):
    def test_both_ways_against_a_counting(self):
        for net, family, worlds, counted in CASES:
            told = counted_parts(counted)
            self.assertEqual((sides_number(net, family), parts_number(net, family)), (told, told))
            self.assertEqual((told == net.size - 1), one_tree(net, family) is not None)

    def test_sides_of_each_kind(self):
        """Each full grove has as many sides alike to X as the settled pairs tell."""
        for net, family, worlds, counted in CASES:
            for grove in (full_grove(net, family), full_grove(net, family, last=True)):
                sides = grove.side_list()
                for pairs in pairs_by_side(counted):
                    x = kept_serving(counted, *pairs[0])[0]
                    many = sum(1 for side in sides if counted.alike(side, x))
                    self.assertEqual(many, blocks_of(pairs))

    def test_few_places_and_many(self):
        for function in (sides_number, parts_number):
            self.assertEqual(function(Twoway(1, [(0, 0)]), Told((3,))), 0)
            self.assertEqual(function(Twoway(2, [(0, 1)]), Stretches([(0, MOST)])), 1)
            self.assertEqual(function(Twoway(8, []), Told(())), 7)
            web = Twoway(8, [(p, q) for p in range(8) for q in range(p)])
            self.assertEqual(function(web, Told([MOST] * 28)), 7)
            self.assertEqual(function(web, Stretches([(0, MOST)] * 28)), 0)
            check_error(self, lambda: function(Twoway(9, []), Told(())), e.TooMany, 9)
            check_error(self, lambda: function(Twoway(9, []), Told((1,))), e.OtherSize, 1)
            check_error(self, lambda: function(Oneway(9, []), Told((1,))), e.NotTwoway)


class Matched(unittest.TestCase):
    def kinds(self, counted, grove):
        """The sides as classes of alike sides."""
        lots = sides_of(counted.size)
        return [min(lots.index(lot) for lot in lots if counted.alike(lot, side)) for side in grove.side_list()]

    def test_any_two_groves(self):
        random = Random(1123)
        none = 0
        for net, family, worlds, counted in CASES:
            groves = [full_grove(net, family), full_grove(net, family, last=True), first_grove(net, family)]
            for _ in range(3):
                grove = first_grove(net, family)
                for _ in range(random.randint(1, 3)):
                    pairs = [(p, q) for p, q in settled_two(counted) if grove.lot_at(p) == grove.lot_at(q)]
                    grove = refine(grove, *random.choice(pairs)) if pairs else grove
                groves.append(grove)
            for one in groves:
                for other in groves:
                    found = matched(one, other)
                    here, there = self.kinds(counted, one), self.kinds(counted, other)
                    if sorted(here) != sorted(there):
                        self.assertIsNone(found)
                        none += 1
                    else:
                        self.assertIs(type(found), list)
                        self.assertEqual([at for at, _ in found], list(range(one.many)))
                        self.assertEqual(sorted(at2 for _, at2 in found), list(range(one.many)))
                        self.assertTrue(all(here[at] == there[at2] for at, at2 in found))
            self.assertIsNotNone(matched(groves[0], groves[1]))
        self.assertGreater(none, 50)

    def test_groves_that_do_not_belong_together(self):
        net, other = Twoway(2, [(0, 1)]), Twoway(2, [(1, 0)])
        one = full_grove(net, Told((1,)))
        self.assertEqual(matched(one, full_grove(Twoway(2, [[0, 1]]), Told([1]))), [(0, 0)])
        self.assertEqual(matched(first_grove(net, Told((1,))), first_grove(net, Told((1,)))), [])
        for wrong in (full_grove(other, Told((1,))), full_grove(net, Told((2,))), full_grove(net, Listed((1,)))):
            check_error(self, lambda: matched(one, wrong), e.OtherKind)
            check_error(self, lambda: matched(wrong, one), e.OtherKind)


class FromSides(unittest.TestCase):
    def due(self, counted, sides):
        """The error by the words of the interface, None if the sides have a grove."""
        for i, j in combinations(range(len(sides)), 2):
            if crossing(counted.size, sides[i], sides[j]):
                return e.Crossing, i, j
        pairs = [served_pairs(counted, side) for side in sides]
        for at, own in enumerate(pairs):
            if all(any(pair in other for other in pairs[:at] + pairs[at + 1:]) for pair in own):
                return e.NotPrivate, at
        return None

    def test_lists_of_sides(self):
        random = Random(1124)
        seen = {}
        for net, family, worlds, counted in CASES:
            for _ in range(20):
                sides = sides_of(net.size)
                sides = random.sample(sides, min(len(sides), random.choice((0, 1, 1, 2, 2, 3, 4))))
                sides = [random.sample(side, len(side)) for side in sides]
                due = self.due(counted, [tuple(sorted(side)) for side in sides])
                seen[due and due[0]] = seen.get(due and due[0], 0) + 1
                if due:
                    check_error(self, lambda: grove_from(net, family, sides), *due)
                else:
                    self.check(grove_from(net, family, tuple(sides)), sides, counted)
        self.assertGreater(min(seen.values()), 100)
        self.assertEqual(len(seen), 3)

    def check(self, grove, sides, counted):
        size = counted.size
        self.assertIs(type(grove), Grove)
        told = sorted(min(tuple(sorted(side)), rest_of(size, side)) for side in sides)
        self.assertEqual(sorted(min(side, rest_of(size, side)) for side in grove.side_list()), told)
        settled = set(settled_two(counted))
        served = {pair for side in sides for pair in served_pairs(counted, tuple(sorted(side)))}
        self.assertIs(grove.is_full(), settled <= served)

    def test_the_sides_of_groves(self):
        random = Random(1125)
        for net, family, worlds, counted in CASES:
            grove = full_grove(net, family)
            sides = [random.choice((side, rest_of(net.size, side))) for side in grove.side_list()]
            random.shuffle(sides)
            found = grove_from(net, family, sides)
            self.check(found, sides, counted)
            self.assertEqual(found.lots, grove.lots)
            self.assertEqual(found.edges, grove.edges)

    def test_errors(self):
        net, family = Twoway(4, [(0, 1), (1, 2), (2, 3), (0, 3)]), Told((1, 1, 1, 1))
        for sides, at in ((None, -1), ("01", -1), ({0: 1}, -1), ([[0], 1], 1), ([[0], [1, 1]], 1), ([[4], None], 0),
                          ([[], [0, 1, 2, 3], [True]], 2)):
            check_error(self, lambda: grove_from(net, family, sides), e.BadLot, at)
        for sides in ([[]], [[0], [3, 1, 2, 0]], [[0], [0], ()]):
            check_error(self, lambda: grove_from(net, family, sides), e.NotASide)
        check_error(self, lambda: grove_from(net, family, [[0], [1], [0, 2], [2, 1]]), e.Crossing, 2, 3)
        check_error(self, lambda: grove_from(net, family, [[0], [1], [1], [0, 2], [2, 1]]), e.Crossing, 1, 2)
        check_error(self, lambda: grove_from(net, family, [[0], [1], [3, 2, 1]]), e.Crossing, 0, 2)
        check_error(self, lambda: grove_from(net, family, [[3], [0, 2]]), e.NotPrivate, 1)
        check_error(self, lambda: grove_from(Twoway(9, []), Told(()), [[0], [8], [8]]), e.Crossing, 1, 2)
        check_error(self, lambda: grove_from(Twoway(9, []), Told(()), [[0], [8]]), e.TooMany, 9)
        check_error(self, lambda: grove_from(Twoway(9, []), Told(()), [[0], [9]]), e.BadLot, 1)
        self.assertEqual(parts_of_grove(grove_from(net, family, [])), (((0, 1, 2, 3),), (), ()))
        self.assertEqual(parts_of_grove(grove_from(Twoway(1, []), Told(()), ())), (((0,),), (), ()))


class Thinned(unittest.TestCase):
    def left(self, counted, sides, order):
        """The sides that are left when they are taken away in this order, if those left serve all settled pairs."""
        settled = set(settled_two(counted))
        left = list(range(len(sides)))
        for at in order:
            fewer = [other for other in left if other != at]
            served = {pair for other in fewer for pair in served_pairs(counted, sides[other])}
            if settled <= served:
                left = fewer
        return [sides[at] for at in left]

    def test_cut_trees_of_the_middle(self):
        for net, family, worlds, counted in CASES:
            told = sides_number(net, family)
            for edges in some(1126, Wood(net, counted_middle(family)).trees(), 3):
                tree = Tree(net.size, edges)
                sides = [counted_side(net.size, edges, at) for at in range(len(edges))]
                self.assertEqual(set().union(*[served_pairs(counted, side) for side in sides]),
                                 set(settled_two(counted)))
                for backwards in (False, True):
                    order = range(len(edges))[::-1] if backwards else range(len(edges))
                    found = thinned_tree(net, family, tree, backwards=backwards)
                    self.assertEqual((type(found), found), (list, self.left(counted, sides, order)))
                    grove = grove_from(net, family, found)
                    self.assertTrue(grove.is_full() and grove.many == told)
                    self.assertIsNotNone(matched(grove, full_grove(net, family)))
                self.assertEqual(thinned_tree(net, family, tree), self.left(counted, sides, range(len(edges))))

    def test_trees_that_are_no_cut_trees_of_the_middle(self):
        net, family = Twoway(3, [(0, 1), (1, 2), (0, 2)]), Stretches([(5, 5), (5, 5), (0, 6)])
        self.assertEqual(thinned_tree(net, family, Tree.chain([0, 1, 2])), [(0, 1)])
        self.assertEqual(thinned_tree(net, family, Tree.chain([0, 1, 2]), backwards=True), [(0,)])
        check_error(self, lambda: thinned_tree(net, family, Tree.star(3, 0)), e.NotACutTree, 0)
        check_error(self, lambda: thinned_tree(net, family, Tree.star(3, 2)), e.NotACutTree, 1)
        check_error(self, lambda: thinned_tree(net, Told((1,)), Tree.star(4, 2)), e.OtherSize, 1)
        check_error(self, lambda: thinned_tree(net, family, Tree.star(4, 2)), e.OtherSize, 4)
        check_error(self, lambda: thinned_tree(Twoway(9, [(0, 1)]), Told((1,)), Tree.star(9, 2)), e.TooMany, 9)
        self.assertEqual(thinned_tree(Twoway(1, []), Told(()), Tree(1, [])), [])

    def test_all_serving_sides_of_a_web(self):
        """[113]: where each two places have a tie that is not dead, all serving sides with the place 0 will do."""
        random = Random(1127)
        for size in (3, 4) * 12:
            net = Twoway(size, list(combinations(range(size), 2)))
            pairs = [(u, u + random.choice((0, 0, 1))) for u in (random.randint(1, 4) for _ in net.ties)]
            family = Stretches(pairs)
            counted = Counted(net, counted_worlds(family))
            sides = [side for side in sides_of(size) if 0 in side and served_pairs(counted, side)]
            order = random.sample(range(len(sides)), len(sides))
            left = self.left(counted, sides, order)
            grove = grove_from(net, family, left)
            self.assertTrue(grove.is_full() and matched(grove, full_grove(net, family)) is not None)


class CommonTrees(unittest.TestCase):
    def test_against_a_counting(self):
        random = Random(1140)
        none = 0
        for size in (2, 3, 4) * 10 + (5,) * 4:
            net = Twoway(size, list(combinations(range(size), 2))[::-1] + [(0, 0)])
            for many in (1, 2, 3):
                worlds = [[random.randint(0, 3) for _ in net.ties] for _ in range(many)]
                told = one_trees(net, worlds)
                found = common_tree(net, random.choice((list, tuple))(worlds))
                total = [sum(column) for column in zip(*worlds)]
                self.assertIs(least_total(net, total) == sum(least_total(net, world) for world in worlds), bool(told))
                if told:
                    self.assertIn(found.edges, told)
                else:
                    self.assertIsNone(found)
                    none += 1
        self.assertGreater(none, 20)

    def test_three_worlds_two_by_two(self):
        net = Twoway(3, [(0, 1), (1, 2), (0, 2)])
        worlds = [(1, 1, 2), (2, 1, 1), (1, 2, 1)]
        for one, other in combinations(worlds, 2):
            self.assertIsNotNone(common_tree(net, [one, other]))
        self.assertIsNone(common_tree(net, worlds))

    def test_errors(self):
        net = Twoway(3, [(0, 1), (1, 2), (0, 2)])
        for worlds in (None, [], (), "111", 3, {0: (1, 1, 1)}):
            check_error(self, lambda: common_tree(net, worlds), e.NoWorld)
        for worlds, at in (([(1, 1, 1), (1, -1, 1), (-1,)], 1), ([None], -1), (((1, 1),), -1), ([[1, 1, True]], 2)):
            check_error(self, lambda: common_tree(net, worlds), e.BadWorld, at)
        check_error(self, lambda: common_tree(Oneway(9, []), None), e.NotTwoway)
        check_error(self, lambda: common_tree(Twoway(9, []), [(1,)]), e.BadWorld, -1)
        check_error(self, lambda: common_tree(Twoway(9, []), [()]), e.TooMany, 9)


class OtherFamilies(unittest.TestCase):
    def test_narrowed(self):
        random = Random(1160)
        for net, family, worlds, counted in CASES:
            grove = full_grove(net, family, last=True)
            for narrow in narrowed_families(random, family, worlds):
                same = Grove(net, narrow, *parts_of_grove(grove))
                self.assertEqual(parts_of_grove(same), parts_of_grove(grove))
                self.assertGreaterEqual(sides_number(net, narrow), grove.many)

    def test_either(self):
        for (net, one, _, _), seed in zip(CASES, range(60)):
            random = Random(seed)
            other = Listed(*[[random.randint(0, 3) for _ in net.ties] for _ in range(2)])
            both = one | other
            self.assertLessEqual(sides_number(net, both), min(sides_number(net, one), sides_number(net, other)))

    def test_multiples(self):
        for net, family, worlds, counted in CASES:
            for r in (2, MOST):
                if family.WORD == "listed":
                    more = Listed(*[[r * u for u in world] for world in family.choices])
                elif family.WORD == "stretches":
                    more = Stretches([(r * low, r * high) for low, high in family.pairs])
                else:
                    continue
                self.assertEqual(settled_pairs(net, more), settled_pairs(net, family))
                self.assertEqual(sides_number(net, more), sides_number(net, family))
                self.assertIs(one_tree(net, more) is None, one_tree(net, family) is None)

    def test_two_ties_made_one(self):
        random = Random(1161)
        for net, family, worlds, counted in CASES:
            if family.WORD not in ("told", "listed", "stretches", "moves") or net.many == 0:
                continue
            tie = random.randrange(net.many)
            more = Twoway(net.size, net.ties + (net.ties[tie][::-1],))
            if family.WORD == "stretches":
                low, high = random.choice(((0, 1), (1, 1), (0, 0)))
                longer = Stretches(family.pairs + ((low, high),))
                rows = [(a + low * (at == tie), b + high * (at == tie)) for at, (a, b) in enumerate(family.pairs)]
                summed = Stretches(rows)
            elif family.WORD != "listed":
                end, more_told = random.randint(0, 3), (family.change,) if family.WORD == "moves" else ()
                longer = type(family)(family.world + (end,), *more_told)
                summed = type(family)([u + end * (at == tie) for at, u in enumerate(family.world)], *more_told)
            else:
                choices = family.choices
                ends = [random.randint(0, 3) for _ in choices]
                longer = Listed(*[world + (end,) for world, end in zip(choices, ends)])
                summed = Listed(*[[u + end * (at == tie) for at, u in enumerate(world)]
                                  for world, end in zip(choices, ends)])
            self.assertEqual(settled_pairs(net, summed), settled_pairs(more, longer))
            self.assertEqual(sides_number(net, summed), sides_number(more, longer))

    def test_shrunk_nets(self):
        for net, family, worlds, counted in CASES:
            whole = sides_number(net, family)
            one = one_tree(net, family) is not None
            for side in sides_of(net.size):
                if served_pairs(counted, side):
                    inner, outer = shrunk(net, side), shrunk(net, rest_of(net.size, side))
                    self.assertEqual(whole, sides_number(inner, family) + sides_number(outer, family) - 1)
                    two = [one_tree(small, family) is not None for small in (inner, outer)]
                    self.assertIs(one, all(two))
                    grove = grove_from(net, family, [side])
                    finer = full_grove(net, family, start=grove).side_list()
                    self.assertTrue(side in finer or rest_of(net.size, side) in finer)

    def test_shrunk_lots_with_a_holder(self):
        for net, family, worlds, counted in CASES:
            settled = settled_two(counted)
            for lot in sides_of(net.size):
                holders = counted.holders(lot)
                if not holders:
                    continue
                small = full_grove(shrunk(net, lot), family)
                grove = self.lifted_grove(net, family, lot, holders[0], small)
                self.assertEqual(grove.many, small.many)
                if one_tree(net, family) is not None:
                    self.assertIsNotNone(one_tree(shrunk(net, lot), family))
                inside = [pair for pair in settled if not less(pair, lot)]
                self.assertLessEqual(small.many, sides_number(net, family))
                self.assertIs(small.many == sides_number(net, family), not inside)

    def lifted_grove(self, net, family, lot, holder, small):
        others = rest_of(net.size, lot)
        last = len(others)
        lots = [[others[p] for p in places if p < last] + list(lot) * (last in places) for places in small.lots]
        posts = [tuple(others[p] if p < last else holder for p in ends) for ends in small.posts]
        return Grove(net, family, lots, small.edges, posts)

    def test_nets_at_a_lot(self):
        """[117]: LEAST is the sum over the lots, less the costs of all sides; settled pairs of a lot stay."""
        for net, family, worlds, counted in CASES:
            grove = full_grove(net, family)
            for world in worlds[:3]:
                total = sum(least_total(self.net_at(net, grove, at)[0], world) for at in range(len(grove)))
                sides = sum(net_cost(net, world, side) for side in grove.side_list())
                self.assertEqual(least_total(net, world), total - sides)
            start = first_grove(net, family)
            for p, q in settled_two(counted)[:1]:
                start = refine(start, p, q)
            for at in range(len(start)):
                small, numbers = self.net_at(net, start, at)
                settled = settled_pairs(small, family)
                for p, q in combinations(start.lots[at], 2):
                    here, there = sorted((numbers[p], numbers[q]))
                    self.assertIs((here, there) in settled, (p, q) in settled_two(counted))

    def net_at(self, net, grove, at):
        """The net with the places beyond each edge at the lot as one place, and the new numbers."""
        from leastgates.shapes import behind
        numbers = {place: place for place in range(net.size)}
        small = net
        for number, (i, j) in enumerate(grove.edges):
            if at in (i, j):
                side = grove.side(number)
                beyond = rest_of(net.size, side) if at == i else side
                lot = sorted({numbers[place] for place in beyond})
                numbers = {place: behind(small.size, lot, now) for place, now in numbers.items()}
                small = shrunk(small, lot)
        return small, numbers


def net_cost(net, world, side):
    return sum(world[tie] for tie in net.gates(side))


class Middles(unittest.TestCase):
    def test_the_middle_tree_is_thinned(self):
        for net, family, worlds, counted in CASES[:20]:
            self.assertEqual(len(thinned_tree(net, family, middle_tree(net, family))), counted_parts(counted))


if __name__ == "__main__":
    unittest.main()
