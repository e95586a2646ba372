"""[31] to [39], [43]: which lots are held, against a counting of all lots between."""

import unittest
from random import Random

from leastgates import errors as e
from leastgates.costs import added
from leastgates.flows import flow
from leastgates.holding import (breaking_lot, greatest_held, held_lots, holder_table, holders_of, holds, rectangle)
from leastgates.leasts import first_side, last_side
from leastgates.nets import Oneway, Twoway
from leastgates.shapes import lifted, shrunk
from tests.support import (apart_lots, check_error, counted_cost, counted_flow, counted_gates, counted_holds,
                           counted_least, less, lies_in, lots_from, meet, pairs_inside, random_net, rest_of, sides_of,
                           small_cases, some, subsets, union)

MOST = 10 ** 30


def counted_holders(net, world, lot):
    return tuple(p for p in lot if counted_holds(net, world, (p,), lot))


class Holding(unittest.TestCase):
    def test_holds_against_a_counting(self):
        for net, world in small_cases(80, 100, least=1, top=3):
            for holders, lot in pairs_inside(net.size):
                told = counted_holds(net, world, holders, lot)
                self.assertIs(holds(net, list(world), holders[::-1], list(lot[::-1])), told)

    def test_breaking_lot_against_a_counting(self):
        for net, world in small_cases(81, 100, least=1, top=3):
            for holders, lot in pairs_inside(net.size):
                lots = lots_from(holders, lot)
                least = min(counted_cost(net, world, inside) for inside in lots)
                cheapest = [inside for inside in lots if counted_cost(net, world, inside) == least]
                found = breaking_lot(net, world, holders, lot)
                if least == counted_cost(net, world, lot):
                    self.assertIsNone(found)
                else:
                    self.assertEqual(found, cheapest[-1])
                    self.assertTrue(all(lies_in(inside, found) for inside in cheapest))

    def test_holders_against_a_counting(self):
        for net, world in small_cases(82, 100, least=1, top=3):
            for lot in subsets(range(net.size))[1:]:
                self.assertEqual(holders_of(net, world, lot[::-1]), counted_holders(net, world, lot))

    def test_held_lots_against_a_counting(self):
        for net, world in small_cases(83, 100, least=1, top=3):
            whole = tuple(range(net.size))
            for holders in subsets(whole)[1:]:
                found = held_lots(net, world, list(holders[::-1]))
                told = [lot for lot in lots_from(holders, whole) if counted_holds(net, world, holders, lot)]
                self.assertEqual(found, told)
                self.assertIn(holders, found)
                self.assertIn(whole, found)

    def test_holder_table_against_a_counting(self):
        for net, world in small_cases(84, 40, least=1, top=3):
            told = [(p, lot) for lot in subsets(range(net.size))[1:] for p in counted_holders(net, world, lot)]
            self.assertEqual(holder_table(net, world), told)

    def test_greatest_held_against_a_counting(self):
        for net, world in small_cases(85, 80, least=1, top=3):
            for holders in subsets(range(net.size))[1:]:
                for misses in subsets(rest_of(net.size, holders)):
                    lots = [lot for lot in lots_from(holders, rest_of(net.size, misses))
                            if counted_holds(net, world, holders, lot)]
                    found = greatest_held(net, world, holders[::-1], list(misses))
                    self.assertEqual(found, lots[-1])
                    self.assertTrue(all(lies_in(lot, found) for lot in lots))

    def test_rectangle_against_a_counting(self):
        for net, world in small_cases(86, 80, top=3):
            for side in sides_of(net.size):
                pairs = [(p, q) for p in side for q in rest_of(net.size, side)
                         if counted_cost(net, world, side) == counted_flow(net, world, (p,), (q,))]
                here, there = rectangle(net, world, list(side[::-1]))
                self.assertEqual(pairs, [(p, q) for p in here for q in there])
                self.assertEqual(here, counted_holders(net, world, side))
                self.assertEqual(there, counted_holders(~net, world, rest_of(net.size, side)))

    def test_a_lot_without_holders(self):
        net = Twoway(4, [(0, 1), (2, 3)])
        self.assertEqual(holders_of(net, [5, 5], [0, 2]), ())
        self.assertEqual(rectangle(net, [5, 5], [0, 2]), ((), ()))
        net = Twoway(4, [(0, 2), (1, 3)])
        self.assertEqual(holders_of(net, [5, 5], [0, 1]), ())

    def test_the_example(self):
        net = Twoway(3, [(0, 1), (1, 2)])
        found = (holds(net, (1, 2), (0,), (0, 1)), breaking_lot(net, (1, 2), (0,), (0, 1)),
                 holders_of(net, (1, 2), (0, 1)))
        self.assertEqual(found, (False, (0,), (1,)))


class Edges(unittest.TestCase):
    def test_one_place(self):
        for kind in (Oneway, Twoway):
            net = kind(1, [(0, 0)])
            self.assertIs(holds(net, [3], [0], [0]), True)
            self.assertIsNone(breaking_lot(net, [3], [0], [0]))
            self.assertEqual((holders_of(net, [3], [0]), greatest_held(net, [3], [0], [])), ((0,), (0,)))
            self.assertEqual((held_lots(net, [3], [0]), holder_table(net, [3])), ([(0,)], [(0, (0,))]))
            check_error(self, lambda: rectangle(net, [3], [0]), e.NotASide)

    def test_each_lot_holds_itself_and_each_holds_all(self):
        for net, world in small_cases(87, 40, least=1):
            whole = tuple(range(net.size))
            for lot in subsets(whole)[1:]:
                self.assertTrue(holds(net, world, lot, lot))
                self.assertTrue(holds(net, world, lot, whole))
            self.assertEqual(holders_of(net, world, whole), whole)

    def test_worlds_of_zeros_and_no_ties(self):
        net = Oneway(3, [(0, 1), (1, 2)])
        self.assertEqual(holders_of(net, [0, 0], [0, 1]), (0, 1))
        self.assertEqual(len(held_lots(Twoway(8, []), [], [3])), 128)
        self.assertEqual(len(holder_table(Twoway(6, []), [])), 6 * 32)

    def test_eight_places_against_a_counting(self):
        for net, world in small_cases(88, 8, least=8, most=8, ties=24):
            for holders in ((2,), (0, 7)):
                told = [lot for lot in lots_from(holders, range(8)) if counted_holds(net, world, holders, lot)]
                self.assertEqual(held_lots(net, world, holders), told)

    def test_many_places(self):
        for size in (9, 12):
            net = Twoway(size, [(p, p + 1) for p in range(size - 1)])
            world = [MOST - p for p in range(size - 1)]
            check_error(self, lambda: held_lots(net, world, [0]), e.TooMany, size)
            check_error(self, lambda: holder_table(net, world), e.TooMany, size)
            self.assertIs(holds(net, world, [0], [0, 1, 2]), True)
            self.assertEqual(holders_of(net, world, [0, 1, 2]), (0, 1, 2))
            self.assertEqual(breaking_lot(net, world, [3], [2, 3]), (3,))
            self.assertEqual(greatest_held(net, world, [0], [size - 1]), tuple(range(size - 1)))
            self.assertEqual(greatest_held(net, world, [4], []), tuple(range(size)))
            self.assertEqual(rectangle(net, world, [0, 1]), ((0, 1), (2,)))
        check_error(self, lambda: holder_table(Oneway(7, []), []), e.TooMany, 7)


class Facts(unittest.TestCase):
    def test_the_same_by_flows(self):
        for net, world in small_cases(89, 60, top=3):
            for holders, side in pairs_inside(net.size):
                if len(side) < net.size:
                    outside = rest_of(net.size, side)
                    held = holds(net, world, holders, side)
                    self.assertEqual(held, flow(net, world, holders, outside) == counted_cost(net, world, side))
                    self.assertEqual(held, side in counted_least(net, world, holders, outside))
                    if not held:
                        self.assertEqual(breaking_lot(net, world, holders, side),
                                         last_side(net, world, holders, outside))

    def test_more_holders(self):
        for net, world in small_cases(90, 60, top=3):
            for holders, lot in pairs_inside(net.size):
                if holds(net, world, holders, lot):
                    for more in lots_from(holders, lot):
                        self.assertTrue(holds(net, world, more, lot))

    def test_what_counts(self):
        random = Random(91)
        for net, world in small_cases(91, 80, top=4):
            for holders, lot in some(91, pairs_inside(net.size), 12):
                if holds(net, world, holders, lot):
                    other = []
                    for tie, (a, b) in enumerate(net.ties):
                        if a in lot and b in lot:
                            other.append(world[tie] + random.randint(0, 3))
                        elif tie in counted_gates(net, lot):
                            other.append(random.randint(0, world[tie]))
                        else:
                            other.append(random.randint(0, 9))
                    self.assertTrue(holds(net, other, holders, lot))
                    self.assertTrue(holds(net, added(net, world, other), holders, lot))
                    self.assertTrue(holds(net, [3 * capacity for capacity in world], holders, lot))

    def test_only_inner_ties_and_the_gates_of_each_place_count(self):
        random = Random(92)
        for net, world in small_cases(92, 60, least=3, top=4):
            for holders, lot in some(92, pairs_inside(net.size), 12):
                outside = rest_of(net.size, lot)
                if outside:
                    moved = self.with_other_ends(net, lot, outside, random)
                    self.assertEqual(counted_gates(moved, lot), counted_gates(net, lot))
                    self.assertEqual(holds(moved, world, holders, lot), holds(net, world, holders, lot))

    def with_other_ends(self, net, lot, outside, random):
        ties = []
        for a, b in net.ties:
            first = a if a in lot else random.choice(outside)
            ties.append((first, b if b in lot else random.choice(outside)))
        return type(net)(net.size, ties)

    def test_joining(self):
        for net, world in small_cases(93, 60, most=4, top=3):
            held = [(p, x) for p, x in pairs_inside(net.size) if holds(net, world, p, x)]
            for p, x in some(93, held, 25):
                for r, y in some(94, held, 25):
                    self.assertTrue(holds(net, world, union(p, less(r, x)), union(x, y)))
                    if p == r:
                        self.assertTrue(holds(net, world, p, union(x, y)))
            for one in subsets(range(net.size))[1:]:
                for other in subsets(range(net.size))[1:]:
                    if set(meet(one, other)) & set(holders_of(net, world, other)):
                        whole = holders_of(net, world, union(one, other))
                        self.assertTrue(lies_in(holders_of(net, world, one), whole))

    def test_greatest_held_is_a_last_least_side(self):
        for net, world in small_cases(95, 60, top=3):
            for holders, misses in apart_lots(net.size):
                found = greatest_held(net, world, holders, misses)
                self.assertEqual(found, last_side(net, world, holders, misses))
            for holders, side in pairs_inside(net.size):
                if len(side) < net.size:
                    sinks = subsets(rest_of(net.size, side))[1:]
                    least = any(side in counted_least(net, world, holders, lot) for lot in sinks)
                    self.assertEqual(least, holds(net, world, holders, side))

    def test_costs_of_held_lots(self):
        for net, world in small_cases(96, 40, most=4, top=3):
            whole = tuple(range(net.size))
            held = [(p, x) for p, x in pairs_inside(net.size) if holds(net, world, p, x)]
            for p, x in held:
                for q in subsets(rest_of(net.size, x))[1:]:
                    self.assertEqual(flow(net, world, p, q), flow(net, world, x, q))
                for r, y in held:
                    if p == r and lies_in(x, y):
                        self.assertLessEqual(counted_cost(net, world, y), counted_cost(net, world, x))
            for p, x in pairs_inside(net.size):
                told = all(counted_cost(net, world, union(z, x)) <= counted_cost(net, world, z)
                           for z in lots_from(p, whole))
                self.assertEqual(holds(net, world, p, x), told)

    def test_rectangles(self):
        for net, world in small_cases(97, 40, most=4, top=3):
            for side in sides_of(net.size):
                outside = rest_of(net.size, side)
                for p in subsets(side)[1:]:
                    for q in subsets(outside)[1:]:
                        self.check_rectangle(net, world, side, p, q)

    def check_rectangle(self, net, world, side, p, q):
        outside = rest_of(net.size, side)
        least = side in counted_least(net, world, p, q)
        here, there = breaking_lot(net, world, p, side), breaking_lot(~net, world, q, outside)
        self.assertEqual(least, here is None and there is None)
        own = counted_cost(net, world, side)
        if here is not None:
            self.assertLess(counted_cost(net, world, here), own)
        if there is not None:
            self.assertLess(counted_cost(net, world, rest_of(net.size, there)), own)

    def test_sides_of_two_places(self):
        for net, world in small_cases(98, 40, most=4, top=3):
            boxes = {side: rectangle(net, world, side) for side in sides_of(net.size)}
            for p, q in [(a, b) for a in range(net.size) for b in range(net.size) if a != b]:
                sides = [side for side, (here, there) in boxes.items() if p in here and q in there]
                self.assertEqual({counted_cost(net, world, side) for side in sides}, {flow(net, world, (p,), (q,))})
                self.assertEqual(sides[0], first_side(net, world, (p,), (q,)))
                self.assertEqual(sides[-1], last_side(net, world, (p,), (q,)))

    def test_inner_lots(self):
        for net, world in small_cases(99, 60, most=4, top=3):
            holders = {lot: holders_of(net, world, lot) for lot in subsets(range(net.size))[1:]}
            for x in holders:
                for y in holders:
                    if lies_in(x, y) and set(holders[y]) & set(x):
                        self.assertTrue(lies_in(holders[x], holders[y]))
                for p in x:
                    told = any(p in holders[inner] and set(inner) & set(holders[x])
                               for inner in holders if lies_in(inner, x))
                    self.assertEqual(p in holders[x], told)


class OtherNets(unittest.TestCase):
    def test_glued(self):
        random = Random(100)
        for net, world in small_cases(100, 40, most=4, top=3):
            other = random_net(random, random.randint(1, 3), 4, type(net))
            whole = net + other
            longer = world + tuple(random.randint(0, 3) for _ in range(4))
            for holders, lot in pairs_inside(net.size):
                if net.size - 1 not in lot:
                    self.assertEqual(holds(net, world, holders, lot), holds(whole, longer, holders, lot))

    def test_shrunk(self):
        for net, world in small_cases(101, 40, most=4, top=3):
            for shrinking in subsets(range(net.size))[1:]:
                small = shrunk(net, shrinking)
                last = small.size - 1
                for holders, lot in pairs_inside(small.size):
                    lots = [lifted(net.size, shrinking, part) for part in (holders, lot)]
                    if holds(net, world, *lots):
                        self.assertTrue(holds(small, world, holders, lot))
                    elif last not in lot or last in holders:
                        self.assertFalse(holds(small, world, holders, lot))


if __name__ == "__main__":
    unittest.main()
