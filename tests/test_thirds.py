"""[61], [73], [75]: three places of a two-way net."""

import unittest
from itertools import permutations
from random import Random

from leastgates import errors as e
from leastgates.families import Listed, Told
from leastgates.nets import Oneway, Twoway
from leastgates.serving import serves, serving_side
from leastgates.stretches import Stretches
from leastgates.thirds import third, third_flow, third_settled
from tests.support import check_error, counted_cost, parts_pair, some
from tests.worlds import Counted, family_cases, random_world

MOST = 10 ** 30


class Thirds(unittest.TestCase):
    def cases(self, seed, count, top=3):
        for net, family, worlds in family_cases(seed, count, kinds=(Twoway,), least=3, top=top):
            counted = Counted(net, worlds)
            for p, q, r in some(seed, permutations(range(net.size), 3), 8):
                yield net, family, counted, (p, q, r)

    def test_third_against_a_counting(self):
        for net, family, counted, (p, q, r) in self.cases(340, 15):
            lasts = [counted.serving((a,), (b,))[-1:] for a, b in ((p, q), (q, r))]
            found = third(net, family, p, q, r)
            self.assertEqual(found, (lasts[0][0], lasts[1][0]) if all(lasts) else None)
            if found is not None:
                self.assertEqual(found, (serving_side(net, family, [p], [q]), serving_side(net, family, [q], [r])))

    def test_third_flow_and_third_settled(self):
        for net, family, counted, (p, q, r) in self.cases(341, 15):
            sides = third(net, family, p, q, r)
            if sides is None:
                first = (q, r) if counted.serving((p,), (q,)) else (p, q)
                for call in (lambda: third_flow(net, family, p, q, r, [0] * net.many),
                             lambda: third_settled(net, family, p, q, r)):
                    check_error(self, call, e.NotSettled, *first)
            else:
                self.check_sides(net, family, counted, (p, q, r), sides)

    def check_sides(self, net, family, counted, places, sides):
        x, y = sides
        for world in counted.worlds[:3] + [tuple(range(net.many))]:
            told = min(counted_cost(net, world, x), counted_cost(net, world, y))
            self.assertEqual(third_flow(net, family, *places, list(world)), told)
        told = counted.never_dearer(x, y) or counted.never_dearer(y, x)
        self.assertIs(third_settled(net, family, *places), told)

    def test_what_it_tells_of_the_third_pair(self):
        seen = set()
        for net, family, counted, (p, q, r) in self.cases(342, 40, top=2):
            sides = third(net, family, p, q, r)
            if sides is not None:
                flows = counted.flows((p,), (r,))
                rows = [(costs[sides[0]], costs[sides[1]]) for costs in counted.costs]
                for flow, pair in zip(flows, rows):
                    self.assertGreaterEqual(flow, min(pair))
                    self.assertTrue(flow == min(pair) or pair[0] == pair[1])
                same = all(one == other for one, other in rows)
                settled = counted.serving((p,), (r,)) != []
                seen.add((same, settled))
                if not same:
                    self.assertEqual(flows, [min(pair) for pair in rows])
                    self.assertIs(third_settled(net, family, p, q, r), settled)
                    self.check_never_dearer(net, family, counted, (p, r), sides)
        self.assertEqual(seen, {(True, True), (True, False), (False, True), (False, False)})

    def check_never_dearer(self, net, family, counted, pair, sides):
        for one, other in (sides, sides[::-1]):
            if counted.never_dearer(one, other):
                self.assertTrue(parts_pair(one, *pair))
                inside, outside = pair if pair[0] in one else pair[::-1]
                self.assertTrue(serves(net, family, [inside], [outside], one))

    def test_a_world_beyond_the_family(self):
        net = Twoway(3, [(0, 1), (1, 2)])
        family = Told([1, 2])
        self.assertEqual(third(net, family, 0, 1, 2), ((0,), (0, 1)))
        self.assertEqual(third_flow(net, family, 0, 1, 2, [MOST, MOST + 5]), MOST)
        self.assertEqual(third_flow(net, family, 0, 1, 2, [9, 0]), 0)
        self.assertIs(third_settled(net, family, 0, 1, 2), True)
        self.assertIs(third_settled(net, Listed([1, 2], [2, 1]), 0, 1, 2), False)

    def test_random_worlds_of_a_told_family(self):
        random = Random(343)
        net = Twoway(4, [(0, 1), (1, 2), (2, 3), (0, 3), (0, 2)])
        for _ in range(40):
            world = random_world(random, 5)
            found = third_flow(net, Told(world), 0, 2, 3, world)
            self.assertLessEqual(found, Counted(net, [world]).flows((0,), (3,))[0])

    def test_errors(self):
        net, family = Twoway(4, [(0, 1)]), Stretches([(0, 1)])
        check_error(self, lambda: third(net, family, 1, 1, 2), e.SamePlace, 1)
        check_error(self, lambda: third(net, family, 1, 2, 1), e.SamePlace, 1)
        check_error(self, lambda: third(net, family, 0, 2, 2), e.SamePlace, 2)
        check_error(self, lambda: third_flow(net, family, 0, 0, 2, [1, 1]), e.BadWorld, -1)
        check_error(self, lambda: third_flow(net, family, 0, 0, 4, [1, 1]), e.BadPlace, "r")
        check_error(self, lambda: third_flow(net, family, 0, 0, 2, [1]), e.SamePlace, 0)
        for function in (third, third_settled):
            check_error(self, lambda: function(Oneway(4, [(0, 1)]), Told([]), 9, 9, 9), e.NotTwoway)
            check_error(self, lambda: function(Twoway(9, []), Told([]), 0, 1, 2), e.TooMany, 9)
        check_error(self, lambda: third_flow(Twoway(9, []), Told([]), 0, 1, 2, []), e.TooMany, 9)

    def test_eight_places(self):
        net = Twoway(8, [(p, p + 1) for p in range(7)])
        family = Listed([7, 6, 5, 4, 3, 2, 1], [7, 7, 5, 5, 3, 3, 1])
        self.assertEqual(third(net, family, 0, 3, 7), ((0, 1, 2), tuple(range(7))))
        self.assertIs(third_settled(net, family, 7, 0, 3), True)


if __name__ == "__main__":
    unittest.main()
