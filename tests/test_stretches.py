"""[46], [47], [50], [54], [55]: families of stretches."""

import unittest
from random import Random

from leastgates import errors as e
from leastgates.nets import Oneway, Twoway
from leastgates.stretches import Stretches, near, side_high, side_low
from tests.support import check_error, counted_gates, random_net, subsets
from tests.worlds import counted_worlds, random_stretches, random_world

MOST = 10 ** 30
TWO = Stretches([(1, 3), [2, 2], (0, 1)])


class OfStretches(unittest.TestCase):
    def test_attributes(self):
        pairs = [[1, 3], (2, 2)]
        stretches = Stretches(pairs)
        pairs[0][1] = 9
        pairs.append((0, 0))
        self.assertEqual((stretches.pairs, stretches.lows, stretches.highs), (((1, 3), (2, 2)), (1, 2), (3, 2)))
        for value in (stretches.pairs, stretches.pairs[0], stretches.lows, stretches.highs):
            self.assertIs(type(value), tuple)

    def test_methods_in_the_body(self):
        for name in ("unseen", "opposite", "ask", "narrow", "with_high", "with_low"):
            self.assertIn(name, vars(Stretches))
        for name in ("unknown", "seen_at"):
            self.assertIsInstance(vars(Stretches)[name], classmethod)

    def test_unknown_and_seen_at(self):
        self.assertEqual(Stretches.unknown(3, 7), Stretches([(0, 7)] * 3))
        self.assertEqual(Stretches.unknown(0, 0).pairs, ())
        self.assertEqual(Stretches.unknown(2, 0).pairs, ((0, 0), (0, 0)))
        self.assertEqual(Stretches.seen_at([4, 0]).pairs, ((4, 4), (0, 0)))
        self.assertEqual(Stretches.seen_at(()).pairs, ())
        self.assertIs(type(Stretches.unknown(1, 1)), Stretches)

    def test_low_is_high(self):
        seen = Stretches.seen_at([4, 0, 2])
        self.assertEqual((seen.unseen(), seen.seen(), seen.dead()), ((), (0, 1, 2), (1,)))
        self.assertEqual((list(seen.worlds()), seen.middle()), ([(4, 0, 2)], (8, 0, 4)))
        self.assertEqual(seen.opposite([4, 0, 2]), (4, 0, 2))

    def test_unseen_is_what_is_not_seen(self):
        self.assertEqual(TWO.unseen(), (0, 2))
        self.assertEqual(TWO.seen(), (1,))
        random = Random(220)
        for _ in range(40):
            stretches = random_stretches(random, random.randint(1, 6))
            ties = set(range(stretches.many))
            self.assertEqual(set(stretches.unseen()), ties - set(stretches.seen()))

    def test_opposite_worlds(self):
        random = Random(221)
        for _ in range(40):
            stretches = random_stretches(random, random.randint(1, 5))
            for world in counted_worlds(stretches):
                other = stretches.opposite(list(world))
                self.assertIn(other, stretches)
                self.assertEqual(tuple(a + b for a, b in zip(world, other)), stretches.middle())
                self.assertEqual(stretches.opposite(other), world)
        check_error(self, lambda: TWO.opposite([3, 2, 2]), e.NotInFamily, 2)
        check_error(self, lambda: TWO.opposite([0, 3, 2]), e.NotInFamily, 0)

    def test_ask(self):
        found = TWO.ask(0, 2)
        self.assertIs(type(found), Stretches)
        self.assertEqual((found.pairs, TWO.pairs), (((2, 2), (2, 2), (0, 1)), ((1, 3), (2, 2), (0, 1))))
        self.assertEqual(TWO.ask(0, 1).ask(0, 1).ask(2, 1).pairs, ((1, 1), (2, 2), (1, 1)))
        for tie, amount in ((0, 0), (0, 4), (1, 3), (2, True), (2, None)):
            check_error(self, lambda: TWO.ask(tie, amount), e.BadNumber, "amount")

    def test_narrow(self):
        self.assertEqual(TWO.narrow(0, 2, 3).pairs, ((2, 3), (2, 2), (0, 1)))
        self.assertEqual(TWO.narrow(2, 0, 1), TWO)
        self.assertEqual(TWO.pairs, ((1, 3), (2, 2), (0, 1)))
        for low, high in ((0, 3), (1, 4), (3, 2), (True, 2), (1, None), ("1", 2), (-1, 1)):
            check_error(self, lambda: TWO.narrow(0, low, high), e.BadStretch, 0)
        check_error(self, lambda: TWO.narrow(2, 0, 2), e.BadStretch, 2)

    def test_with_high_and_with_low(self):
        for ties in subsets(range(3)):
            high = tuple(TWO.pairs[tie][1 if tie in ties else 0] for tie in range(3))
            low = tuple(TWO.pairs[tie][0 if tie in ties else 1] for tie in range(3))
            self.assertEqual((TWO.with_high(ties[::-1]), TWO.with_low(list(ties))), (high, low))

    def test_sides_high_and_low(self):
        random = Random(222)
        for at in range(30):
            net = random_net(random, random.randint(1, 4), random.randint(1, 6), (Oneway, Twoway)[at % 2])
            stretches = random_stretches(random, net.many)
            for lot in subsets(range(net.size)):
                gates = counted_gates(net, lot)
                self.assertEqual(side_high(net, stretches, lot[::-1]), stretches.with_high(gates))
                self.assertEqual(side_low(net, stretches, list(lot)), stretches.with_low(gates))

    def test_near(self):
        self.assertEqual(near([3, 0, 1], 2).pairs, ((1, 5), (0, 2), (0, 3)))
        self.assertEqual(near((3, 0), 0), Stretches.seen_at([3, 0]))
        self.assertEqual(near([MOST], MOST).pairs, ((0, 2 * MOST),))
        self.assertEqual(near([], 1).pairs, ())
        check_error(self, lambda: near([1, -1], True), e.BadWorld, 1)

    def test_worlds_are_counted_before_they_are_built(self):
        for stretches in (Stretches.unknown(40, 1), Stretches([(0, MOST)]), Stretches.unknown(40, MOST),
                          Stretches([(0, 0)] * 38 + [(0, 3000), (5, 5)])):
            worlds = stretches.worlds()
            check_error(self, lambda: next(worlds), e.TooMany, 3001)
        exact = Stretches([(1, 30), (5, 5), (0, 99)])
        self.assertEqual(len(list(exact.worlds())), 3000)
        self.assertEqual(list(Stretches([(MOST, MOST + 1)]).worlds()), [(MOST,), (MOST + 1,)])

    def test_great_numbers(self):
        stretches = Stretches([(0, MOST), (MOST, MOST)])
        self.assertEqual(stretches.gap([0], [1]), 0)
        self.assertEqual(stretches.gap([1], [0]), MOST)
        self.assertEqual(stretches.middle(), (MOST, 2 * MOST))
        self.assertIs(stretches.has([5, MOST]), True)

    def test_random_worlds_of_the_family(self):
        random = Random(223)
        for _ in range(30):
            stretches = random_stretches(random, 3)
            for _ in range(20):
                world = random_world(random, 3, 5)
                told = all(low <= u <= high for u, (low, high) in zip(world, stretches.pairs))
                self.assertIs(stretches.has(world), told)


if __name__ == "__main__":
    unittest.main()
