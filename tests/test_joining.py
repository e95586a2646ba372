"""[2], [33], [35]: held lots as objects, and their sums."""

import unittest

from leastgates import errors as e
from leastgates.joining import Held, joined
from leastgates.nets import Oneway, Twoway
from tests.support import (check_error, counted_holds, counted_wrong, less, lies_in, pairs_inside, small_cases, some,
                           union)

CHAIN = Twoway(4, [(0, 1), (1, 2), (2, 3)])


class Joining(unittest.TestCase):
    def test_joined(self):
        self.assertEqual(joined((0,), (0, 1), (1, 2), (1, 2, 3)), ((0, 2), (0, 1, 2, 3)))
        self.assertEqual(joined((1,), (0, 1), (0,), (0,)), ((1,), (0, 1)))
        for p, x in pairs_inside(4):
            for r, y in some(130, pairs_inside(4), 20):
                self.assertEqual(joined(p, x, r, y), (union(p, less(r, x)), union(x, y)))

    def test_attributes(self):
        held = Held(CHAIN, [1, 1, 1], [2, 0], [2, 0, 1])
        self.assertIs(held.net, CHAIN)
        self.assertEqual((held.world, held.holders, held.lot), ((1, 1, 1), (0, 2), (0, 1, 2)))
        self.assertIsNone(counted_wrong(CHAIN, (1, 1, 1), (0, 2), (0, 1, 2), held.row))
        self.assertEqual(Held(CHAIN, (1, 1, 1), (3,), (0, 1, 2, 3)).row, (0, 0, 0))

    def test_each_method_in_the_body_of_the_class(self):
        for name in ("row", "__add__", "__eq__", "lies_in"):
            self.assertIn(name, vars(Held))

    def test_held_lots_against_a_counting(self):
        for net, world in small_cases(131, 60, least=1, top=3):
            for holders, lot in some(131, pairs_inside(net.size), 20):
                if counted_holds(net, world, holders, lot):
                    held = Held(net, list(world), holders[::-1], list(lot))
                    self.assertEqual((held.world, held.holders, held.lot), (world, holders, lot))
                    self.assertIsNone(counted_wrong(net, world, holders, lot, held.row))
                    self.assertEqual(held.row, held.row)
                else:
                    error = check_error_kind(self, lambda: Held(net, world, holders, lot))
                    self.assertTrue(lies_in(holders, error.lot) and lies_in(error.lot, lot))

    def test_sums(self):
        for net, world in small_cases(132, 40, least=1, most=4, top=3):
            pairs = [pair for pair in pairs_inside(net.size) if counted_holds(net, world, *pair)]
            held = [Held(net, world, *pair) for pair in some(132, pairs, 12)]
            for one in held:
                for other in held:
                    before = (one.holders, one.lot, other.holders, other.lot)
                    whole = one + other
                    self.assertIs(type(whole), Held)
                    self.assertEqual((whole.holders, whole.lot), joined(*before))
                    self.assertTrue(counted_holds(net, world, whole.holders, whole.lot))
                    self.assertEqual((whole.net, whole.world), (net, world))
                    self.assertIsNone(counted_wrong(net, world, whole.holders, whole.lot, whole.row))
                    self.assertEqual(before, (one.holders, one.lot, other.holders, other.lot))
                    self.assertIs(one.lies_in(other), lies_in(one.lot, other.lot))
                    self.assertTrue(one.lies_in(whole) and other.lies_in(whole))

    def test_sums_of_what_does_not_belong_together(self):
        ones = (1, 1, 1)
        one = Held(CHAIN, ones, (0,), (0, 1))
        for other in (Held(CHAIN, (1, 1, 2), (0,), (0, 1)), Held(Oneway(4, CHAIN.ties), ones, (0,), (0, 1)),
                      Held(Twoway(5, CHAIN.ties), ones, (0,), (0, 1)), Held(~CHAIN, ones, (0,), (0, 1))):
            check_error(self, lambda: one + other, e.OtherKind)
            check_error(self, lambda: other + one, e.OtherKind)
        again = Twoway(4, [[0, 1], [1, 2], [2, 3]])
        self.assertEqual((one + Held(again, [1, 1, 1], (2,), (1, 2))).lot, (0, 1, 2))

    def test_only_held_lots_are_added_to_one(self):
        with self.assertRaises(TypeError):
            Held(CHAIN, (1, 1, 1), (0,), (0, 1)) + CHAIN

    def test_equal(self):
        ones = (1, 1, 1)
        one = Held(CHAIN, ones, (0,), (0, 1))
        again = Held(Twoway(4, CHAIN.ties), [1, 1, 1], [0], [1, 0])
        self.assertIs(one == again, True)
        self.assertIs(one != again, False)
        for other in (Held(CHAIN, (1, 1, 2), (0,), (0, 1)), Held(CHAIN, ones, (1,), (0, 1)),
                      Held(CHAIN, ones, (0,), (0,)), Held(Oneway(4, CHAIN.ties), ones, (0,), (0, 1)),
                      None, 3, (0, 1), "Held", True):
            self.assertIs(one == other, False)
            self.assertIs(one != other, True)

    def test_lies_in_compares_no_nets(self):
        one = Held(CHAIN, (1, 1, 1), (0,), (0, 1))
        other = Held(Oneway(3, []), (), (0,), (0, 1, 2))
        self.assertIs(one.lies_in(other), True)
        self.assertIs(other.lies_in(one), False)
        self.assertIs(one.lies_in(one), True)

    def test_twelve_places(self):
        net = Twoway(12, [(p, p + 1) for p in range(11)])
        world = [10 ** 30] * 11
        whole = Held(net, world, (0,), tuple(range(6))) + Held(net, world, (5,), tuple(range(5, 11)))
        self.assertEqual((whole.holders, whole.lot), ((0,), tuple(range(11))))
        self.assertEqual(whole.row, (10 ** 30,) * 11)

    def test_the_examples(self):
        one = Held(CHAIN, (1, 1, 1), (0,), [1, 0])
        other = Held(CHAIN, (1, 1, 1), (2,), (1, 2))
        both = one + other
        found = (both.holders, both.lot, one.lies_in(both), both == other + one)
        self.assertEqual(found, ((0, 2), (0, 1, 2), True, True))
        check_error(self, lambda: Held(Twoway(3, [(0, 1), (1, 2)]), (1, 2), (0,), (0, 1)), e.NotHeld, (0,))


def check_error_kind(case, call):
    with case.assertRaises(e.NotHeld) as found:
        call()
    return found.exception


if __name__ == "__main__":
    unittest.main()
