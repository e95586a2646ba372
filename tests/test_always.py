"""[49], [50], [52], [54], [56] to [59], and [33], [35], [37], [39], [43] read as [49] tells."""

import unittest
from random import Random

from leastgates import errors as e
from leastgates.always import always_holders, always_holds, always_lots, broken_in, peeled, peels
from leastgates.changes import Losses, Moves
from leastgates.families import Either, Listed, Told
from leastgates.nets import Oneway, Twoway
from leastgates.shapes import lifted, shrunk
from leastgates.stretches import Stretches, side_high
from tests.support import (apart_lots, check_error, counted_cost, counted_gates, counted_holds, counted_least, less,
                           lies_in, lots_from, meet, pairs_inside, random_net, rest_of, some, subsets, union)
from tests.worlds import KINDS, Counted, counted_worlds, family_cases, random_family, random_world

MOST = 10 ** 30


class Always(unittest.TestCase):
    def test_always_holds_against_a_counting(self):
        for net, family, worlds in family_cases(250, 8, least=1):
            counted = Counted(net, worlds)
            for holders, lot in pairs_inside(net.size):
                told = counted.holds(holders, lot)
                self.assertIs(always_holds(net, family, holders[::-1], list(lot)), told)

    def test_broken_in_against_a_counting(self):
        for net, family, worlds in family_cases(251, 8, least=1):
            counted = Counted(net, worlds)
            for holders, lot in pairs_inside(net.size):
                found = broken_in(net, family, list(holders), lot[::-1])
                if counted.holds(holders, lot):
                    self.assertIsNone(found)
                else:
                    self.check_broken(net, worlds, holders, lot, found)

    def check_broken(self, net, worlds, holders, lot, found):
        world, inside = found
        self.assertIs(type(found), tuple)
        self.assertIs(type(inside), tuple)
        self.assertIn(world, worlds)
        self.assertTrue(lies_in(holders, inside) and lies_in(inside, lot))
        self.assertEqual(inside, tuple(sorted(inside)))
        self.assertLess(counted_cost(net, world, inside), counted_cost(net, world, lot))

    def test_always_holders_against_a_counting(self):
        for net, family, worlds in family_cases(252, 10, least=1):
            counted = Counted(net, worlds)
            for lot in subsets(range(net.size))[1:]:
                self.assertEqual(always_holders(net, family, lot[::-1]), counted.holders(lot))

    def test_always_lots_against_a_counting(self):
        for net, family, worlds in family_cases(253, 8, least=1):
            counted = Counted(net, worlds)
            for holders in subsets(range(net.size))[1:]:
                found = always_lots(net, family, list(holders[::-1]))
                self.assertEqual(found, counted.held(holders))
                self.assertIn(holders, found)
                self.assertIn(counted.whole, found)

    def test_the_one_world_of_stretches(self):
        for net, family, _ in family_cases(254, 30, words=("stretches",), least=1):
            for holders, lot in pairs_inside(net.size):
                told = counted_holds(net, side_high(net, family, lot), holders, lot)
                self.assertIs(always_holds(net, family, holders, lot), told)

    def test_moves_by_the_room_of_the_one_world(self):
        for net, family, _ in family_cases(255, 30, words=("moves",), least=1):
            for holders, lot in pairs_inside(net.size):
                own, gates = counted_cost(net, family.world, lot), set(counted_gates(net, lot))
                told = counted_holds(net, family.world, holders, lot)
                for inside in lots_from(holders, lot):
                    if gates - set(counted_gates(net, inside)):
                        told = told and counted_cost(net, family.world, inside) - own >= family.change
                self.assertIs(always_holds(net, family, holders, lot), told)

    def test_losses_of_all_ties_are_stretches(self):
        for net, family, _ in family_cases(256, 25, words=("told",), least=1, ties=4):
            losses = Losses(family.world, net.many + family.world[0] if net.many else 0)
            stretches = Stretches([(0, u) for u in family.world])
            for holders, lot in pairs_inside(net.size):
                told = always_holds(net, stretches, holders, lot)
                self.assertIs(always_holds(net, losses, holders, lot), told)

    def test_sums_and_the_middle(self):
        random = Random(257)
        for net, family, worlds in family_cases(257, 8):
            for holders, lot in some(257, pairs_inside(net.size), 20):
                if always_holds(net, family, holders, lot):
                    rows = [random.choice(worlds) for _ in range(3)]
                    for world in (tuple(map(sum, zip(*rows))), family.middle()):
                        self.assertTrue(counted_holds(net, world, holders, lot))

    def test_either(self):
        random = Random(258)
        for at in range(30):
            net = random_net(random, random.randint(2, 4), 5, (Oneway, Twoway)[at % 2])
            one, other = [random_family(random, 5, random.choice(KINDS)) for _ in range(2)]
            for holders, lot in pairs_inside(net.size):
                told = always_holds(net, one, holders, lot) and always_holds(net, other, holders, lot)
                self.assertIs(always_holds(net, one | other, holders, lot), told)

    def test_narrowed(self):
        random = Random(259)
        for net, family, worlds in family_cases(259, 6):
            inner = Listed.of_list(random.sample(worlds, min(3, len(worlds))))
            for holders, lot in pairs_inside(net.size):
                if always_holds(net, family, holders, lot):
                    self.assertTrue(always_holds(net, inner, holders, lot))
            for holders, misses in some(259, apart_lots(net.size), 15):
                self.assertTrue(lies_in(peeled(net, family, holders, misses), peeled(net, inner, holders, misses)))


class Peeling(unittest.TestCase):
    def test_peeled_against_a_counting(self):
        for net, family, worlds in family_cases(260, 8, least=1):
            counted = Counted(net, worlds)
            for holders in subsets(range(net.size))[1:]:
                for misses in subsets(rest_of(net.size, holders)):
                    inside = [lot for lot in counted.held(holders) if not meet(lot, misses)]
                    told = union([p for lot in inside for p in lot], ())
                    self.assertEqual(peeled(net, family, holders[::-1], list(misses)), told)
                    self.assertIn(told, inside)

    def test_each_step_of_peels(self):
        longest = 0
        for net, family, worlds in family_cases(261, 10, least=1, most=5, ties=8):
            counted = Counted(net, worlds)
            for holders in subsets(range(net.size))[1:]:
                for misses in some(261, subsets(rest_of(net.size, holders)), 6):
                    longest = max(longest, self.check_peels(net, family, counted, holders, misses))
        self.assertGreaterEqual(longest, 3)

    def check_peels(self, net, family, counted, holders, misses):
        found = peels(net, family, list(holders), misses[::-1])
        self.assertIs(type(found), list)
        self.assertEqual(found[0], rest_of(net.size, misses))
        self.assertLessEqual(len(found), net.size - len(holders) - len(misses) + 1)
        for one, other in zip(found, found[1:]):
            self.assertTrue(lies_in(other, one) and len(other) < len(one) and lies_in(holders, other))
            lasts = [counted_least(net, world, holders, rest_of(net.size, one))[-1] for world in counted.worlds
                     if not counted_holds(net, world, holders, one)]
            self.assertIn(other, lasts)
        self.assertTrue(counted.holds(holders, found[-1]))
        return len(found)

    def test_misses_nothing(self):
        for net, family, _ in family_cases(262, 3, least=1):
            whole = tuple(range(net.size))
            for holders in subsets(whole)[1:]:
                self.assertEqual(peels(net, family, holders, []), [whole])

    def test_the_example(self):
        net = Twoway(3, [(0, 1), (1, 2)])
        self.assertEqual(peels(net, Stretches([(1, 1), (0, 2)]), (0,), (2,)), [(0, 1), (0,)])


class AsInOneWorld(unittest.TestCase):
    """What [33], [35], [37], [39] and [43] say of one world, for all worlds of a family."""

    def test_more_holders(self):
        for net, family, _ in family_cases(263, 4):
            for holders, lot in pairs_inside(net.size):
                if always_holds(net, family, holders, lot):
                    for more in lots_from(holders, lot):
                        self.assertTrue(always_holds(net, family, more, lot))

    def test_joining(self):
        for net, family, _ in family_cases(264, 4):
            held = [pair for pair in pairs_inside(net.size) if always_holds(net, family, *pair)]
            for p, x in some(264, held, 15):
                for r, y in some(265, held, 15):
                    self.assertTrue(always_holds(net, family, union(p, less(r, x)), union(x, y)))

    def test_costs_of_held_lots(self):
        for net, family, worlds in family_cases(266, 4):
            counted = Counted(net, worlds)
            held = [pair for pair in pairs_inside(net.size) if always_holds(net, family, *pair)]
            for p, x in held:
                for q in subsets(rest_of(net.size, x))[1:]:
                    self.assertEqual(counted.flows(p, q), counted.flows(x, q))
                for r, y in held:
                    if p == r and lies_in(x, y):
                        self.assertTrue(counted.never_dearer(y, x))
            for p, x in pairs_inside(net.size):
                told = all(counted.never_dearer(union(z, x), z) for z in lots_from(p, counted.whole))
                self.assertIs(always_holds(net, family, p, x), told)

    def test_inner_lots(self):
        for net, family, _ in family_cases(267, 4):
            holders = {lot: always_holders(net, family, lot) for lot in subsets(range(net.size))[1:]}
            for x in holders:
                for y in holders:
                    if lies_in(x, y) and set(holders[y]) & set(x):
                        self.assertTrue(lies_in(holders[x], holders[y]))
                for p in x:
                    told = any(p in holders[inner] and set(inner) & set(holders[x])
                               for inner in holders if lies_in(inner, x))
                    self.assertEqual(p in holders[x], told)

    def test_shrunk_nets(self):
        for net, family, _ in family_cases(268, 4):
            for shrinking in some(268, subsets(range(net.size))[1:], 6):
                small = shrunk(net, shrinking)
                for holders, lot in pairs_inside(small.size):
                    lots = [lifted(net.size, shrinking, part) for part in (holders, lot)]
                    if always_holds(net, family, *lots):
                        self.assertTrue(always_holds(small, family, holders, lot))
                    elif small.size - 1 not in lot or small.size - 1 in holders:
                        self.assertFalse(always_holds(small, family, holders, lot))

    def test_glued_nets(self):
        random = Random(269)
        for net, family, worlds in family_cases(269, 4, most=3):
            whole = net + random_net(random, 2, 2, type(net))
            longer = Listed.of_list([world + random_world(random, 2) for world in worlds])
            for holders, lot in pairs_inside(net.size):
                if net.size - 1 not in lot:
                    told = always_holds(net, family, holders, lot)
                    self.assertIs(always_holds(whole, longer, holders, lot), told)


class Sizes(unittest.TestCase):
    def chain(self, size):
        return Twoway(size, [(p, p + 1) for p in range(size - 1)])

    def families(self, many):
        world = [MOST] * many
        return {"listed": Listed(world, [1] * many), "losses": Losses(world, 1), "moves": Moves(world, 1),
                "either": Either(Told(world), Stretches([(1, MOST)] * many))}

    def test_twelve_places_for_told_families_and_stretches(self):
        net = self.chain(12)
        whole = tuple(range(12))
        for family in (Told([MOST] * 11), Stretches([(MOST, MOST)] * 11)):
            self.assertIs(always_holds(net, family, [0], [0, 1, 2]), True)
            self.assertIsNone(broken_in(net, family, [2], [0, 1, 2]))
            self.assertEqual(broken_in(net, family, [0], [0, 2]), ((MOST,) * 11, (0,)))
            self.assertEqual(always_holders(net, family, whole[:5]), whole[:5])
            self.assertEqual(peeled(net, family, [0], [11]), whole[:-1])
            self.assertEqual(peels(net, family, [3], []), [whole])
            check_error(self, lambda: always_lots(net, family, [0]), e.TooMany, 12)
        wide = Stretches([(1, MOST)] * 11)
        self.assertEqual(broken_in(net, wide, [0], [0, 1]), ((1, MOST) + (1,) * 9, (0,)))

    def test_eight_places_and_nine_for_other_families(self):
        for word, family in self.families(7).items():
            with self.subTest(word=word):
                net = self.chain(8)
                self.assertIs(always_holds(net, family, [0], list(range(8))), True)
                self.assertIs(always_holds(net, family, [0], [0, 2]), False)
                self.assertEqual(always_holders(net, family, [0]), (0,))
                self.assertIn((0,), always_lots(net, family, [0]))
        for word, family in self.families(8).items():
            net = self.chain(9)
            whole = list(range(9))
            for call in (lambda: always_holds(net, family, [0], whole), lambda: broken_in(net, family, [0], [0]),
                         lambda: always_holders(net, family, [0]), lambda: peels(net, family, [0], []),
                         lambda: peeled(net, family, [0], [1]), lambda: always_lots(net, family, [0])):
                with self.subTest(word=word):
                    check_error(self, call, e.TooMany, 9)

    def test_a_family_with_very_many_worlds(self):
        net = Oneway(8, [(p, q) for p in range(6) for q in range(6) if p < q][:15] + [(p, p + 2) for p in range(6)])
        for family in (Moves([MOST] * 21, MOST), Losses([MOST] * 21, 21), Stretches([(0, MOST)] * 21),
                       Moves([MOST] * 21, 1) | Losses([MOST] * 21, 9)):
            counted = always_holds(net, family, [0], [0, 1])
            self.assertIs(type(counted), bool)
            self.assertEqual(always_holders(net, family, list(range(8))), tuple(range(8)))

    def test_one_place(self):
        for word, family in self.families(0).items():
            net = Oneway(1, [])
            self.assertIs(always_holds(net, family, [0], [0]), True)
            self.assertEqual((always_lots(net, family, [0]), peels(net, family, [0], [])), ([(0,)], [(0,)]))

    def test_equal_worlds_listed_twice(self):
        net = self.chain(3)
        for family in (Listed([1, 2], [2, 1]), Listed([1, 2], [2, 1], [1, 2])):
            self.assertEqual(counted_worlds(family), [(1, 2), (2, 1)])
            self.assertEqual(always_holders(net, family, [0, 1]), (1,))
            self.assertEqual(peeled(net, family, [0], [2]), (0,))


if __name__ == "__main__":
    unittest.main()
