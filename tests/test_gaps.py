"""[47], [48]: costs of two lots compared in all worlds, against a counting of them."""

import unittest
from random import Random

from leastgates.changes import Losses, Moves
from leastgates.families import Listed, Told
from leastgates.gaps import alike, cost_ends, dearer_world, never_dearer
from leastgates.nets import Oneway, Twoway
from leastgates.stretches import Stretches
from tests.support import counted_cost, counted_gates, rest_of, some, subsets
from tests.worlds import Counted, family_cases

MOST = 10 ** 30


class Gaps(unittest.TestCase):
    def test_against_a_counting(self):
        for net, family, worlds in family_cases(240, 8, least=1):
            counted = Counted(net, worlds)
            lots = subsets(range(net.size))
            for one, other in some(240, [(x, z) for x in lots for z in lots], 60):
                gap = counted.gap(one, other)
                self.assertIs(never_dearer(net, family, one[::-1], list(other)), gap <= 0)
                self.assertIs(alike(net, family, list(one), other[::-1]), counted.alike(one, other))
                world = dearer_world(net, family, one, other)
                if gap <= 0:
                    self.assertIsNone(world)
                else:
                    self.assertIs(type(world), tuple)
                    self.assertIn(world, worlds)
                    self.assertEqual(counted_cost(net, world, one) - counted_cost(net, world, other), gap)

    def test_cost_ends_against_a_counting(self):
        for net, family, worlds in family_cases(241, 8, least=1):
            counted = Counted(net, worlds)
            for lot in subsets(range(net.size)):
                costs = [told[lot] for told in counted.costs]
                self.assertEqual(cost_ends(net, family, lot[::-1]), (min(costs), max(costs)))

    def test_empty_and_whole_lots(self):
        for net, family, _ in family_cases(242, 3, least=1):
            whole = tuple(range(net.size))
            for one in ((), whole):
                self.assertEqual(cost_ends(net, family, one), (0, 0))
                self.assertIs(alike(net, family, one, whole), True)
                self.assertIs(alike(net, family, (), one), True)
                for lot in subsets(whole):
                    self.assertIs(never_dearer(net, family, one, lot), True)
                    self.assertIsNone(dearer_world(net, family, one, lot))

    def test_a_lot_and_its_rest_in_a_twoway_net(self):
        for net, family, _ in family_cases(243, 3, kinds=(Twoway,)):
            for lot in subsets(range(net.size)):
                self.assertIs(alike(net, family, lot, rest_of(net.size, lot)), True)

    def test_alike_lots_of_stretches_have_the_same_unseen_gates(self):
        found = 0
        for net, family, worlds in family_cases(244, 60, words=("stretches",), top=2):
            counted = Counted(net, worlds)
            lots = subsets(range(net.size))
            for one in lots:
                for other in lots:
                    if counted.alike(one, other):
                        gates = [set(counted_gates(net, lot)) & set(family.unseen()) for lot in (one, other)]
                        self.assertEqual(gates[0], gates[1])
                        found += one != other and len(gates[0]) > 0
        self.assertGreater(found, 0)

    def test_costs_in_stretches_take_all_integers(self):
        for net, family, worlds in family_cases(245, 30, words=("stretches",)):
            counted = Counted(net, worlds)
            for lot in subsets(range(net.size)):
                least, most = cost_ends(net, family, lot)
                self.assertEqual({costs[lot] for costs in counted.costs}, set(range(least, most + 1)))

    def test_alike_lots_of_moves_have_the_same_gates(self):
        for net, family, worlds in family_cases(246, 40, words=("moves",), top=2):
            lots = subsets(range(net.size))
            for one in lots:
                for other in lots:
                    same = counted_gates(net, one) == counted_gates(net, other)
                    if family.change >= 1:
                        self.assertIs(alike(net, family, one, other), same)

    def test_great_capacities_and_twelve_places(self):
        random = Random(247)
        for kind in (Oneway, Twoway):
            net = kind(12, [(p, (p + 1) % 12) for p in range(12)])
            lows = [random.randint(0, MOST) for _ in range(12)]
            stretches = Stretches([(low, MOST) for low in lows])
            self.assertEqual(cost_ends(net, stretches, [0]), (lows[0] + (lows[11] if kind is Twoway else 0),
                                                              2 * MOST if kind is Twoway else MOST))
            self.assertIs(never_dearer(net, Told([MOST] * 12), [0, 1], [3]), True)
            self.assertIs(alike(net, Losses([MOST] * 12, 0), [0, 1], [3]), True)
            self.assertIs(alike(net, Losses([MOST] * 12, 1), [0, 1], [3]), False)
            self.assertIs(alike(net, Moves([MOST] * 12, 1), [0, 1], [3]), False)

    def test_of_families_over_no_tie(self):
        net = Twoway(3, [])
        for family in (Told([]), Listed([], []), Stretches([]), Losses([], 2), Moves([], 2), Told([]) | Told([])):
            self.assertIs(alike(net, family, [0], [1, 2]), True)
            self.assertEqual(cost_ends(net, family, [0]), (0, 0))


if __name__ == "__main__":
    unittest.main()
