"""[76] to [81], [83], [84]: solid lots, against a counting of all splits and of nets around a lot."""

import unittest
from random import Random

from leastgates import errors as e
from leastgates.changes import Losses, Moves
from leastgates.costs import added
from leastgates.families import Listed, Told
from leastgates.flows import flow, flow_between
from leastgates.holding import holders_of
from leastgates.leasts import least_sides
from leastgates.nets import Oneway, Twoway
from leastgates.shapes import behind, lifted, shrunk
from leastgates.solid import always_solid, is_solid, loose_world, moved_off, shown_outside, weak_split
from leastgates.standing import around, around_world
from leastgates.stretches import Stretches
from tests.support import (between_amount, check_error, counted_cost, counted_gates, less, lies_in, meet, random_net,
                           rest_of, sides_of, small_cases, some, subsets, union)
from tests.worlds import counted_worlds, family_cases

MOST = 10 ** 30
FOUR = Twoway(4, [(1, 2), (2, 3), (0, 1), (3, 0)])


def two_cases(seed, count, **more):
    return [case for case in small_cases(seed, 2 * count, **more) if isinstance(case[0], Twoway)]


def amounts(net, world, lot, split):
    """The three amounts of [78]."""
    others, outside = less(lot, split), rest_of(net.size, lot)
    pairs = ((split, others), (split, outside), (others, outside))
    return tuple(between_amount(net, world, one, other) for one, other in pairs)


def weak_splits(net, world, lot):
    found = []
    for split in subsets(lot)[1:-1]:
        first, second, third = amounts(net, world, lot, split)
        if first < second and first < third:
            found.append(split)
    return found


def splits(lot, side):
    return meet(lot, side) not in ((), lot)


class Solid(unittest.TestCase):
    def test_against_a_counting(self):
        seen = set()
        for net, world in two_cases(350, 80, least=1, ties=9):
            for lot in subsets(range(net.size))[1:]:
                told = weak_splits(net, world, lot)
                self.assertEqual(weak_split(net, list(world), lot[::-1]), told[0] if told else None)
                self.assertIs(is_solid(net, world, list(lot)), told == [])
                seen.add((len(lot), told == []))
        self.assertTrue({(1, True), (2, False), (3, False), (4, False), (3, True)} <= seen)
        self.assertNotIn((1, False), seen)

    def test_which_lots_are_solid(self):
        for net, world in two_cases(351, 80, ties=9):
            for lot in subsets(range(net.size))[1:]:
                holders = holders_of(net, world, lot)
                solid = is_solid(net, world, lot)
                self.assertTrue(solid or holders == ())
                self.assertTrue(solid or len(lot) not in (1, net.size))
                if len(lot) == 2:
                    self.assertIs(solid, holders != ())
        net = Twoway(4, [(0, 1), (0, 3), (1, 2), (1, 3), (2, 0), (2, 3)])
        self.assertEqual(holders_of(net, (1, 2, 1, 2, 1, 2), [0, 1, 2]), ())
        self.assertIs(is_solid(net, (1, 2, 1, 2, 1, 2), [0, 1, 2]), True)

    def test_by_flows_between_two_parts_of_the_gates(self):
        for net, world in two_cases(352, 40, ties=7):
            for lot in some(352, subsets(range(net.size))[1:], 6):
                gates = counted_gates(net, lot)
                told = all(self.passes(net, world, lot, gates, part) for part in subsets(gates))
                self.assertIs(is_solid(net, world, lot), told)

    def passes(self, net, world, lot, gates, part):
        ties, capacities = [], []
        for tie, (a, b) in enumerate(net.ties):
            if tie in gates or a in lot and b in lot:
                end = len(lot) if tie in part else len(lot) + 1
                ties.append(tuple(lot.index(place) if place in lot else end for place in (a, b)))
                capacities.append(world[tie])
        found = flow_between(Twoway(len(lot) + 2, ties), capacities, len(lot), len(lot) + 1)
        whole = [sum(world[tie] for tie in gates if (tie in part) == told) for told in (True, False)]
        return found == min(whole)

    def test_in_nets_around_the_lot(self):
        random = Random(353)
        for net, world in two_cases(353, 40, ties=9):
            for lot in some(353, subsets(range(net.size))[1:], 5):
                same = all(self.same_outside(random, net, world, lot) for _ in range(5))
                if is_solid(net, world, lot):
                    self.assertTrue(same)
                else:
                    self.check_shown(net, world, lot)

    def same_outside(self, random, net, world, lot):
        """F between places outside is the same in a net around the lot and behind shrinking the lot there."""
        places = random.randint(1, 3)
        ends = [random.randrange(places) for _ in counted_gates(net, lot)]
        more = [(random.randrange(places), random.randrange(places)) for _ in range(random.randint(0, 3))]
        found = around(net, lot, ends, more=more, places=places)
        capacities = around_world(net, lot, world, [random.randint(0, 3) for _ in more])
        small = shrunk(found, tuple(range(len(lot))))
        pairs = [(r, s) for r in range(places) for s in range(r)]
        return all(flow_between(found, capacities, len(lot) + r, len(lot) + s)
                   == flow_between(small, capacities, r, s) for r, s in pairs)

    def check_shown(self, net, world, lot):
        found, capacities = shown_outside(net, world, lot, weak_split(net, world, lot))
        last = found.size - 1
        here = flow_between(found, capacities, last - 1, last)
        small = shrunk(found, tuple(range(len(lot))))
        self.assertLess(here, flow_between(small, capacities, 0, 1))

    def test_solid_in_two_worlds_and_not_in_their_sum(self):
        random, apart = Random(354), 0
        for _ in range(2000):
            net = random_net(random, 4, 7, Twoway)
            one, other = [tuple(random.randint(0, 3) for _ in range(7)) for _ in range(2)]
            if is_solid(net, one, (0, 1, 2)) and is_solid(net, other, (0, 1, 2)):
                apart += not is_solid(net, added(net, one, other), (0, 1, 2))
                both = meet(holders_of(net, one, (0, 1, 2)), holders_of(net, other, (0, 1, 2)))
                self.assertTrue(lies_in(both, holders_of(net, added(net, one, other), (0, 1, 2))))
        self.assertGreater(apart, 0)


class Unions(unittest.TestCase):
    def test_a_holder_of_one_lot_in_the_other(self):
        for net, world in two_cases(355, 60, ties=9):
            lots = subsets(range(net.size))[1:]
            for c in some(355, lots, 8):
                for d in some(356, lots, 8):
                    if meet(holders_of(net, world, d), c):
                        here = holders_of(net, world, c)
                        self.assertTrue(lies_in(here, holders_of(net, world, union(c, d))))
                        self.assertTrue(here == () or is_solid(net, world, union(c, d)))

    def test_the_union_of_solid_lots_that_meet(self):
        for lot, told in (([1, 2], True), ([2, 3], True), ([1, 2, 3], False)):
            self.assertIs(is_solid(FOUR, (1, 1, 5, 5), lot), told)

    def test_shrinking_on(self):
        for net, world in two_cases(357, 40, ties=8):
            for c in some(357, subsets(range(net.size))[1:], 6):
                small = shrunk(net, c)
                last = small.size - 1
                for d in subsets(range(small.size))[1:]:
                    whole = lifted(net.size, c, d)
                    if last in d and is_solid(net, world, c):
                        self.assertIs(is_solid(small, world, d), is_solid(net, world, whole))
                    self.check_holders(net, world, c, small, d, whole)

    def check_holders(self, net, world, c, small, d, whole):
        holders = holders_of(net, world, c)
        if holders:
            here, there = holders_of(small, world, d), holders_of(net, world, whole)
            for place in rest_of(net.size, c):
                self.assertIs(behind(net.size, c, place) in here, place in there)
            if small.size - 1 in d:
                self.assertIn(set(holders) & set(there), (set(), set(holders)))
                self.assertIs(small.size - 1 in here, lies_in(holders, there))


class Behind(unittest.TestCase):
    def test_flows_behind_shrinking(self):
        for net, world in small_cases(358, 60, least=3):
            for c in some(358, subsets(range(net.size))[1:-1], 5):
                small = shrunk(net, c)
                outside = rest_of(net.size, c)
                for p in subsets(outside)[1:]:
                    for q in subsets(less(outside, p))[1:]:
                        self.check_behind(net, world, c, small, p, q)

    def check_behind(self, net, world, c, small, p, q):
        found = flow(small, world, *[[behind(net.size, c, place) for place in lot] for lot in (p, q)])
        lots = [lot for lot in sides_of(net.size) if lies_in(p, lot) and not meet(lot, q)]
        self.assertEqual(found, min(counted_cost(net, world, lot) for lot in lots if not splits(c, lot)))
        whole = any(not splits(c, lot) for lot in least_sides(net, world, p, q))
        self.assertEqual(found == flow(net, world, p, q), whole)


class AlwaysSolid(unittest.TestCase):
    def test_against_a_counting(self):
        seen = set()
        for net, family, worlds in family_cases(359, 12, kinds=(Twoway,), least=1, ties=8):
            for lot in subsets(range(net.size))[1:]:
                told = all(weak_splits(net, world, lot) == [] for world in worlds)
                self.assertIs(always_solid(net, family, lot[::-1]), told)
                seen.add((family.WORD, told))
        self.assertEqual(len(seen), 12)

    def test_the_one_world_of_stretches(self):
        for net, family, _ in family_cases(360, 30, words=("stretches",), kinds=(Twoway,), least=1, ties=8):
            for lot in subsets(range(net.size))[1:]:
                inner = [tie for tie, (a, b) in enumerate(net.ties) if a in lot and b in lot]
                told = tuple(low if tie in inner else high for tie, (low, high) in enumerate(family.pairs))
                self.assertEqual(loose_world(net, family, list(lot[::-1])), told)
                self.assertIs(always_solid(net, family, lot), is_solid(net, told, lot))

    def test_moving_off_the_same_way_in_all_worlds(self):
        for net, family, worlds in family_cases(361, 20, words=("stretches",), kinds=(Twoway,), ties=8):
            for lot in subsets(range(net.size))[1:]:
                if always_solid(net, family, lot):
                    outside = rest_of(net.size, lot)
                    for split in subsets(lot)[1:-1]:
                        sides = [union(split, more) for more in subsets(outside)]
                        ways = (lambda side: union(side, lot), lambda side: less(side, lot))
                        self.assertTrue(any(all(counted_cost(net, u, way(side)) <= counted_cost(net, u, side)
                                                for side in sides for u in worlds) for way in ways))

    def test_very_many_worlds(self):
        net = Twoway(8, [(p, q) for p in range(8) for q in range(p)])
        wide = [(0, MOST)] * 28
        self.assertIs(always_solid(net, Stretches(wide), [0, 1, 2]), False)
        self.assertIs(always_solid(net, Stretches(wide), [0]), True)
        for family in (Moves([1] * 28, MOST), Losses([1] * 28, 28), Told([1] * 28) | Stretches(wide)):
            for lot in ([0, 1, 2], [0], list(range(8))):
                check_error(self, lambda: always_solid(net, family, lot), e.TooMany, 3001)
            check_error(self, lambda: always_solid(net + Twoway(2, []), family, [0]), e.TooMany, 9)
            check_error(self, lambda: always_solid(net, family, []), e.EmptyLot, "lot")
        rows = [[at % 50 + 1, at // 50] + [1] * 26 for at in range(3000)]
        self.assertIs(always_solid(net, Listed.of_list(rows), list(range(8))), True)
        check_error(self, lambda: always_solid(net, Listed.of_list(rows + [[0] * 28]), [0]), e.TooMany, 3001)


class MovedOff(unittest.TestCase):
    def test_against_the_words(self):
        for net, world in two_cases(362, 60, ties=8):
            for lot in subsets(range(net.size))[1:]:
                outside = rest_of(net.size, lot)
                for side in subsets(range(net.size)):
                    if meet(side, outside) in ((), outside):
                        check_error(self, lambda: moved_off(net, world, lot, side), e.NotASide)
                    else:
                        self.check_moved(net, world, lot, side)

    def check_moved(self, net, world, lot, side):
        found = moved_off(net, list(world), lot[::-1], list(side))
        costs = {found: counted_cost(net, world, found) for found in (union(side, lot), less(side, lot))}
        if not splits(lot, side):
            self.assertEqual(found, side)
        else:
            self.assertEqual(found, min(costs, key=costs.get))
        if is_solid(net, world, lot):
            self.assertLessEqual(counted_cost(net, world, found), counted_cost(net, world, side))

    def test_both_cost_the_same(self):
        net = Twoway(4, [(0, 2), (1, 3)])
        self.assertEqual(moved_off(net, (1, 1), [0, 1], [0, 2]), (0, 1, 2))
        self.assertEqual(moved_off(net, (2, 1), [0, 1], [0, 2]), (0, 1, 2))
        self.assertEqual(moved_off(net, (1, 2), [0, 1], [0, 2]), (2,))

    def test_order_of_errors(self):
        check_error(self, lambda: moved_off(FOUR, (1, 1, 5, 5), [], [0]), e.EmptyLot, "lot")
        check_error(self, lambda: moved_off(FOUR, (1, 1, 5, 5), [0], [0, 1, 2, 3]), e.NotASide)
        check_error(self, lambda: moved_off(FOUR, (1, 1, 5, 5), [0], [1, 2, 3]), e.NotASide)
        check_error(self, lambda: moved_off(FOUR, (1, 1, 5, 5), [0, 1, 2, 3], [0]), e.NotASide)
        check_error(self, lambda: moved_off(Twoway(9, []), (), [0], []), e.NotASide)


class Shown(unittest.TestCase):
    def test_the_net_by_the_words(self):
        for net, world in two_cases(363, 50, least=1, ties=9):
            for lot in subsets(range(net.size))[1:]:
                for split in subsets(lot)[1:-1]:
                    self.check_net(net, world, lot, split)

    def check_net(self, net, world, lot, split):
        found, capacities = shown_outside(net, list(world), lot[::-1], list(split[::-1]))
        ties, told = [], []
        for tie, (a, b) in enumerate(net.ties):
            if a in lot or b in lot:
                inside = a if a in lot else b
                end = len(lot) if inside in split else len(lot) + 1
                ties.append(tuple(lot.index(place) if place in lot else end for place in (a, b)))
                told.append(world[tie])
        self.assertEqual((found, capacities), (Twoway(len(lot) + 2, ties), tuple(told)))
        self.check_flows(net, world, lot, split, found, capacities)

    def check_flows(self, net, world, lot, split, found, capacities):
        first, second, third = amounts(net, world, lot, split)
        last = found.size - 1
        self.assertLessEqual(flow_between(found, capacities, last - 1, last), first)
        small = shrunk(found, tuple(range(len(lot))))
        self.assertEqual(flow_between(small, capacities, 0, 1), min(second, third))

    def test_the_example(self):
        found, world = shown_outside(FOUR, (1, 1, 5, 5), [1, 2, 3], [1])
        self.assertEqual((found.ties, world), (((0, 1), (1, 2), (3, 0), (2, 4)), (1, 1, 5, 5)))
        self.assertEqual(weak_split(FOUR, (1, 1, 5, 5), [1, 2, 3]), (1,))
        self.assertEqual(moved_off(FOUR, (1, 1, 5, 5), [1, 2], [0, 1]), (0, 1, 2))

    def test_of_the_whole_net(self):
        found, world = shown_outside(FOUR, (1, 1, 5, 5), [0, 1, 2, 3], [1])
        self.assertEqual((found, world), (Twoway(6, FOUR.ties), (1, 1, 5, 5)))

    def test_order_of_errors(self):
        ones = (1, 1, 5, 5)
        check_error(self, lambda: shown_outside(FOUR, ones, [], []), e.EmptyLot, "lot")
        check_error(self, lambda: shown_outside(FOUR, ones, [0], []), e.EmptyLot, "split")
        check_error(self, lambda: shown_outside(FOUR, ones, [2, 1], [3, 0]), e.NotInside, 0)
        check_error(self, lambda: shown_outside(FOUR, ones, [2, 1], [1, 2]), e.NotASide)
        check_error(self, lambda: shown_outside(Twoway(9, []), (), [2, 1], [1, 2]), e.NotASide)
        check_error(self, lambda: shown_outside(Twoway(9, []), (), [2, 1], [1]), e.TooMany, 9)


class Sizes(unittest.TestCase):
    def test_only_twoway_nets(self):
        net = Oneway(2, [])
        for call in (lambda: weak_split(net, (), [0]), lambda: is_solid(net, None, []),
                     lambda: always_solid(net, Told([1]), []), lambda: loose_world(net, Stretches([(0, 1)]), []),
                     lambda: moved_off(net, (), [], []), lambda: shown_outside(net, (), [], [])):
            check_error(self, call, e.NotTwoway)

    def test_eight_places_and_great_capacities(self):
        net = Twoway(8, [(p, (p + 1) % 8) for p in range(8)])
        world = [MOST - at for at in range(8)]
        self.assertIs(is_solid(net, world, list(range(7))), True)
        self.assertIs(is_solid(net, world[::-1], list(range(7))), False)
        self.assertEqual(weak_split(net, [1] * 7 + [2], [7, 0, 1, 6]), None)
        self.assertEqual(weak_split(net, [2] * 6 + [1] + [2], [5, 6, 7, 0]), (0, 7))
        self.assertEqual(counted_worlds(Stretches([(1, 1)] * 8)), [(1,) * 8])


if __name__ == "__main__":
    unittest.main()
