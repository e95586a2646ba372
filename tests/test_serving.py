"""[53], [55] to [59], [61] to [65], [74], [75]: sides that serve, against a counting of all fit sides."""

import unittest
from random import Random

from leastgates import errors as e
from leastgates import serving
from leastgates.always import always_holds, peeled
from leastgates.changes import Losses, Moves
from leastgates.costs import added
from leastgates.families import Either, Listed, Told
from leastgates.flows import flow
from leastgates.leasts import least_sides
from leastgates.nets import Oneway, Twoway
from leastgates.serving import (Judge, cheaper, is_serving, served, serves, serving_side, serving_sides, settled,
                                settled_pairs)
from leastgates.stretches import Stretches, near, side_high
from tests.support import (apart_lots, between_ties, check_error, counted_cost, counted_gates, is_twoway, less,
                           lies_in, meet, random_net, rest_of, sides_of, some, subsets, union)
from tests.worlds import KINDS, Counted, counted_worlds, family_cases, random_family, random_stretches, random_world

MOST = 10 ** 30


def fit_cases(seed, net, count):
    """Some triples of holders, sinks and a fit side."""
    cases = []
    for holders, sinks in apart_lots(net.size):
        for lot in sides_of(net.size):
            if lies_in(holders, lot) and not meet(lot, sinks):
                cases.append((holders, sinks, lot))
    return some(seed, cases, count)


class Serving(unittest.TestCase):
    def test_serves_against_a_counting(self):
        for net, family, worlds in family_cases(280, 6):
            counted = Counted(net, worlds)
            for holders, sinks in some(280, apart_lots(net.size), 12):
                told = counted.serving(holders, sinks)
                for lot in subsets(range(net.size)):
                    found = serves(net, family, list(holders), sinks[::-1], list(lot))
                    self.assertIs(found, lot in told)

    def test_served_against_a_counting(self):
        for net, family, worlds in family_cases(281, 8):
            counted = Counted(net, worlds)
            for side in sides_of(net.size):
                here, there = served(net, family, side[::-1])
                self.assertEqual(here, counted.holders(side))
                self.assertEqual(there, counted.turned().holders(rest_of(net.size, side)))
                self.assertIs(is_serving(net, family, list(side)), here != () and there != ())
                for p in side:
                    for q in rest_of(net.size, side):
                        self.assertIs(p in here and q in there, counted.serves((p,), (q,), side))

    def test_cheaper_against_a_counting(self):
        inside, outside = 0, 0
        for net, family, worlds in family_cases(282, 8):
            counted = Counted(net, worlds)
            for holders, sinks, lot in fit_cases(282, net, 25):
                found = cheaper(net, family, holders[::-1], list(sinks), list(lot))
                if counted.serves(holders, sinks, lot):
                    self.assertIsNone(found)
                else:
                    world, other = found
                    self.assertIn(world, worlds)
                    self.assertIs(type(other), tuple)
                    self.assertIn(other, counted.fit(holders, sinks))
                    self.assertTrue(lies_in(other, lot) or lies_in(lot, other))
                    self.assertLess(counted_cost(net, world, other), counted_cost(net, world, lot))
                    inside += lies_in(other, lot)
                    outside += lies_in(lot, other)
        self.assertTrue(inside > 50 and outside > 50)

    def test_serving_sides_against_a_counting(self):
        for net, family, worlds in family_cases(283, 8):
            counted = Counted(net, worlds)
            for holders, sinks in some(283, apart_lots(net.size), 15):
                told = counted.serving(holders, sinks)
                self.assertEqual(serving_sides(net, family, holders[::-1], list(sinks)), told)
                last = serving_side(net, family, list(holders), sinks)
                self.assertEqual(last, told[-1] if told else None)
                self.assertTrue(all(lies_in(lot, last) and lies_in(told[0], lot) for lot in told))

    def test_settled_against_a_counting(self):
        for net, family, worlds in family_cases(284, 10, least=1):
            told = Counted(net, worlds).settled()
            if is_twoway(net):
                self.assertEqual(told, sorted((q, p) for p, q in told))
                self.assertEqual(settled_pairs(net, family), [(p, q) for p, q in told if p < q])
            else:
                self.assertEqual(settled_pairs(net, family), told)
            for p in range(net.size):
                for q in range(net.size):
                    if p != q:
                        self.assertIs(settled(net, family, p, q), (p, q) in told)

    def test_judge(self):
        for net, family, worlds in family_cases(285, 5):
            judge = Judge(net, family)
            self.assertIs(judge.net, net)
            self.assertIs(judge.family, family)
            for p, q in Counted(net, worlds).pairs():
                self.assertEqual(judge(p, q), serving_side(net, family, (p,), (q,)))
                self.assertEqual(judge(p, q), serving_side(net, family, (p,), (q,)))

    def test_judge_works_out_each_answer_once(self):
        net = Twoway(3, [(0, 1), (1, 2), (0, 2)])
        judge = Judge(net, Stretches([(5, 5), (5, 5), (0, 6)]))
        calls = []
        told = serving.last_of

        def counting(*arguments):
            calls.append(arguments)
            return told(*arguments)

        serving.last_of = counting
        try:
            for _ in range(3):
                found = [judge(0, 2), judge(0, 1), judge(2, 0)]
        finally:
            serving.last_of = told
        self.assertEqual((found, len(calls)), ([(0, 1), None, (1, 2)], 3))

    def test_method_in_the_body(self):
        self.assertIn("__call__", vars(Judge))


class Points(unittest.TestCase):
    def test_rectangles(self):
        for net, family, worlds in family_cases(286, 4):
            for holders, sinks, lot in fit_cases(286, net, 20):
                told = always_holds(net, family, holders, lot)
                told = told and always_holds(~net, family, sinks, rest_of(net.size, lot))
                self.assertIs(serves(net, family, holders, sinks, lot), told)

    def test_settled_by_peeling(self):
        for net, family, worlds in family_cases(287, 5):
            for holders, sinks in some(287, apart_lots(net.size), 15):
                x = peeled(net, family, holders, sinks)
                y = peeled(~net, family, sinks, holders)
                found = serving_sides(net, family, holders, sinks)
                self.assertEqual(found != [], serves(net, family, holders, sinks, x))
                self.assertEqual(found != [], union(x, y) == tuple(range(net.size)))
                if found:
                    self.assertEqual((found[-1], found[0]), (x, rest_of(net.size, y)))

    def test_settled_by_the_middle(self):
        for net, family, worlds in family_cases(288, 5):
            counted = Counted(net, worlds)
            for holders, sinks in some(288, apart_lots(net.size), 15):
                told = counted.serving(holders, sinks)
                lots = least_sides(net, family.middle(), holders, sinks)
                self.assertEqual([lot in told for lot in lots], [told != []] * len(lots))
                self.assertTrue(told == [] or told == lots)

    def test_all_serving_sides(self):
        for net, family, worlds in family_cases(289, 6, top=2):
            counted = Counted(net, worlds)
            dead = family.dead()
            for holders, sinks in some(289, apart_lots(net.size), 15):
                found = serving_sides(net, family, holders, sinks)
                for x in found:
                    for y in found:
                        self.assertTrue(meet(x, y) in found and union(x, y) in found)
                        self.assertTrue(counted.alike(x, y))
                        self.assertTrue(lies_in(between_ties(net, less(x, y), less(y, x)), dead))
                        self.check_gates(net, family, x, y)
                    self.assertEqual([costs[x] for costs in counted.costs], counted.flows(holders, sinks))

    def check_gates(self, net, family, x, y):
        gates = [counted_gates(net, lot) for lot in (x, y)]
        if isinstance(family, Stretches):
            self.assertEqual(*[meet(told, family.unseen()) for told in gates])
        if isinstance(family, Moves) and family.change >= 1:
            self.assertEqual(*gates)

    def test_flows_of_settled_pairs_over_stretches(self):
        for net, family, worlds in family_cases(290, 20, words=("stretches",)):
            counted = Counted(net, worlds)
            for holders, sinks in some(290, apart_lots(net.size), 10):
                if serving_sides(net, family, holders, sinks):
                    flows = set(counted.flows(holders, sinks))
                    self.assertEqual(flows, set(range(min(flows), max(flows) + 1)))

    def test_opposite_worlds(self):
        for net, family, worlds in family_cases(291, 15, words=("stretches",)):
            for holders, sinks in some(291, apart_lots(net.size), 8):
                self.check_opposite(net, family, worlds, holders, sinks)

    def check_opposite(self, net, family, worlds, holders, sinks):
        middle = flow(net, family.middle(), holders, sinks)
        told = serving_side(net, family, holders, sinks) is not None

        def adds(world):
            here = flow(net, world, holders, sinks)
            return here + flow(net, family.opposite(world), holders, sinks) == middle

        self.assertIs(all(adds(world) for world in worlds), told)
        for lot in least_sides(net, family.middle(), holders, sinks):
            self.assertIs(adds(side_high(net, family, lot)), told)

    def test_listed_by_the_sum(self):
        for net, family, worlds in family_cases(292, 25, words=("listed",)):
            for holders, sinks in some(292, apart_lots(net.size), 12):
                whole = flow(net, added(net, *family.choices), holders, sinks)
                told = whole == sum(flow(net, world, holders, sinks) for world in family.choices)
                self.assertIs(serving_side(net, family, holders, sinks) is not None, told)

    def test_losses_of_all_ties(self):
        for net, family, worlds in family_cases(293, 15, words=("told",), ties=5):
            stretches = Stretches([(0, u) for u in family.world])
            for number in (net.many, net.many + 1, MOST):
                losses = Losses(family.world, number)
                self.assertEqual(settled_pairs(net, losses), settled_pairs(net, stretches))
                for side in sides_of(net.size):
                    self.assertEqual(served(net, losses, side), served(net, stretches, side))

    def test_either(self):
        random = Random(294)
        apart = 0
        for at in range(60):
            net = random_net(random, random.randint(2, 4), 5, (Oneway, Twoway)[at % 2])
            one, other = [random_family(random, 5, random.choice(KINDS)) for _ in range(2)]
            for holders, sinks in some(294, apart_lots(net.size), 10):
                sides = [serving_sides(net, family, holders, sinks) for family in (one, other)]
                found = serving_sides(net, one | other, holders, sinks)
                self.assertEqual(found, [lot for lot in sides[0] if lot in sides[1]])
                apart += bool(sides[0] and sides[1] and not found)
        self.assertGreater(apart, 0)

    def test_either_of_either(self):
        for net, family, worlds in family_cases(295, 12, words=("either",)):
            whole = Either(family, Either(Told(worlds[0]), family))
            counted = Counted(net, worlds)
            self.assertEqual(counted_worlds(whole), worlds)
            for holders, sinks in some(295, apart_lots(net.size), 8):
                self.assertEqual(serving_sides(net, whole, holders, sinks), counted.serving(holders, sinks))

    def test_narrowed(self):
        random = Random(296)
        for net, family, worlds in family_cases(296, 6):
            inner = Listed.of_list(random.sample(worlds, min(3, len(worlds))))
            for holders, sinks in some(296, apart_lots(net.size), 12):
                found = serving_sides(net, inner, holders, sinks)
                for lot in serving_sides(net, family, holders, sinks):
                    self.assertIn(lot, found)
            self.assertTrue(set(settled_pairs(net, family)) <= set(settled_pairs(net, inner)))

    def test_turned(self):
        for net, family, _ in family_cases(297, 6):
            for holders, sinks in some(297, apart_lots(net.size), 12):
                there = [rest_of(net.size, lot) for lot in serving_sides(~net, family, sinks, holders)]
                self.assertEqual(sorted(there), sorted(serving_sides(net, family, holders, sinks)))

    def test_places_beside(self):
        for net, family, worlds in family_cases(298, 6, kinds=(Twoway,)):
            counted = Counted(net, worlds)
            flows = {(a, b): counted.flows((a,), (b,)) for a, b in counted.pairs()}
            for p, q in counted.pairs():
                for x in serving_sides(net, family, [p], [q]):
                    costs = [told[x] for told in counted.costs]
                    self.check_beside(net, family, flows, costs, p, q, x)

    def check_beside(self, net, family, flows, costs, p, q, x):
        for r in x:
            for s in rest_of(net.size, x):
                self.assertEqual(flows[r, s], [min(pair) for pair in zip(flows[r, q], flows[p, s])])
            if r != p:
                self.assertEqual(flows[r, q], [min(pair) for pair in zip(flows[r, p], costs)])
                told = all(a >= b for a, b in zip(flows[r, p], costs))
                self.assertIs(serves(net, family, [r], [q], x), told)


class Edges(unittest.TestCase):
    def test_the_example(self):
        net = Twoway(3, [(0, 1), (1, 2), (0, 2)])
        family = Stretches([(5, 5), (5, 5), (0, 6)])
        self.assertEqual(settled_pairs(net, family), [(0, 2)])
        self.assertEqual(serving_sides(net, family, [0], [2]), [(0,), (0, 1)])
        self.assertEqual(served(net, family, [0]), ((0,), (2,)))
        self.assertEqual(cheaper(net, family, [0], [1], [0]), ((5, 5, 6), (0, 2)))

    def test_one_and_two_places(self):
        for kind in (Oneway, Twoway):
            self.assertEqual(settled_pairs(kind(1, []), Told([])), [])
            net = kind(2, [(0, 1), (1, 0), (0, 0)])
            pairs = [(0, 1)] if kind is Twoway else [(0, 1), (1, 0)]
            for family in (Moves([0, 0, 0], 5), Stretches([(0, MOST)] * 3), Losses([1, 2, 3], 9)):
                self.assertEqual(settled_pairs(net, family), pairs)
                self.assertEqual(serving_sides(net, family, [1], [0]), [(1,)])

    def test_loops_and_worlds_of_zeros(self):
        net = Oneway(3, [(0, 0), (1, 1)])
        for family in (Told([0, 0]), Moves([0, 0], 7), Listed([0, 9], [9, 0])):
            self.assertEqual(len(settled_pairs(net, family)), 6)
            self.assertEqual(serving_sides(net, family, [0], [2]), [(0,), (0, 1)])

    def test_families_over_no_tie(self):
        net = Twoway(3, [])
        for family in (Told([]), Listed([], []), Stretches([]), Losses([], 2), Moves([], 2), Told([]) | Told([])):
            self.assertEqual(settled_pairs(net, family), [(0, 1), (0, 2), (1, 2)])
            self.assertEqual(Judge(net, family)(2, 0), (1, 2))

    def test_eight_places_and_nine(self):
        ties = [(p, (p + 1) % 8) for p in range(8)] + [(p, (p + 3) % 8) for p in range(8)]
        for kind in (Oneway, Twoway):
            world = [MOST - at for at in range(16)]
            for family in (Told(world), near(world, 2), Losses(world, 1), Moves(world, 1), Listed(world, world),
                           Told(world) | near(world, 1)):
                found = settled_pairs(kind(8, ties), family)
                judge = Judge(kind(8, ties), family)
                self.assertEqual(found, [(p, q) for p in range(8) for q in range(8) if p != q
                                         and (p < q or kind is Oneway) and judge(p, q) is not None])
                for call in (lambda: settled_pairs(kind(9, ties), family), lambda: Judge(kind(9, ties), family),
                             lambda: settled(kind(9, ties), family, 0, 8),
                             lambda: serving_side(kind(9, ties), family, [0], [8])):
                    check_error(self, call, e.TooMany, 9)

    def test_a_listed_family_of_three_thousand_worlds(self):
        random = Random(299)
        ties = [(p, q) for p in range(8) for q in range(p + 1, 8)]
        family = Listed.of_list([random_world(random, len(ties), 9) for _ in range(3000)])
        found = settled_pairs(Twoway(8, ties), family)
        self.assertTrue(set(found) <= {(p, q) for p, q in ties})

    def test_holders_that_are_many(self):
        random = Random(300)
        net = Twoway(4, [(0, 1), (1, 2), (2, 3), (0, 3), (0, 2)])
        for _ in range(20):
            family = random_stretches(random, 5)
            counted = Counted(net, counted_worlds(family))
            self.assertEqual(serving_sides(net, family, [1, 0, 2], [3]), counted.serving((0, 1, 2), (3,)))
            self.assertEqual(serving_sides(net, family, [1, 0, 2], [3]), [(0, 1, 2)])

    def test_order_of_errors(self):
        net, family = Twoway(4, [(0, 1)]), Told([1])
        check_error(self, lambda: cheaper(net, family, [0, 1], [2], []), e.NotASide)
        check_error(self, lambda: cheaper(net, family, [0, 1], [2], [1, 2]), e.NotInside, 0)
        check_error(self, lambda: cheaper(net, family, [0, 1], [3, 2], [0, 1, 3]), e.Meeting, 3)
        check_error(self, lambda: cheaper(net, family, [0, 1], [1], []), e.Meeting, 1)
        check_error(self, lambda: served(Twoway(9, []), Told([]), list(range(9))), e.NotASide)
        check_error(self, lambda: cheaper(Twoway(9, []), Told([]), [0], [1], [0, 1]), e.Meeting, 1)
        check_error(self, lambda: served(Twoway(9, []), Told([]), [0]), e.TooMany, 9)
        for side in ([], [0, 1, 2, 3], [0, 2], [1]):
            self.assertIs(serves(net, family, [0], [2], side), False)


if __name__ == "__main__":
    unittest.main()
