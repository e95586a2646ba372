"""[4], [6], [11]: nets, their gates, turned and glued nets."""

import unittest

from leastgates import errors as e
from leastgates.nets import Net, Oneway, Twoway, all_lot, check_twoway
from tests.support import (between_ties, check_error, counted_cost, counted_gates, less, meet, rest_of, small_cases,
                           subsets, union)

NOT_PAIRS = (None, True, 0, "01", (0,), (0, 1, 2), [0, 3], [-1, 0], (True, 0), (0, False), (0, None), ([0], 1),
             (0, 1.0), {0: 1, 1: 2}, ("0", "1"), (), b"\x00\x01", {0, 1})


class Nets(unittest.TestCase):
    def test_attributes(self):
        for kind, word in ((Oneway, "oneway"), (Twoway, "twoway")):
            net = kind(3, [[2, 0], (1, 1), (2, 0)])
            self.assertEqual((net.KIND, net.size, net.ties, net.many), (word, 3, ((2, 0), (1, 1), (2, 0)), 3))
            self.assertIsInstance(net, Net)
            self.assertEqual(kind.KIND, word)
        self.assertEqual(Net.KIND, "")

    def test_least_and_greatest_nets(self):
        for kind in (Oneway, Twoway):
            self.assertEqual(kind(1, ()).ties, ())
            self.assertEqual(kind(1, [(0, 0)] * 40).many, 40)
            net = kind(12, [(11, 0)] * 40)
            self.assertEqual((net.size, net.many, len(net)), (12, 40, 40))
            check_error(self, lambda: kind(12, [(11, 0)] * 41), e.BadNet, -1)
            check_error(self, lambda: kind(13, []), e.BadNumber, "size")

    def test_wrong_sizes(self):
        for size in (True, False, None, "3", 0, -1, 13, [3], 3.0, 10 ** 30):
            for kind in (Oneway, Twoway):
                check_error(self, lambda: kind(size, None), e.BadNumber, "size")

    def test_wrong_ties(self):
        for kind in (Oneway, Twoway):
            for ties in (None, True, 3, "0", {0: (0, 1)}, {(0, 1)}, range(2), b""):
                check_error(self, lambda: kind(3, ties), e.BadNet, -1)
            check_error(self, lambda: kind(3, [None] * 41), e.BadNet, -1)
            for pair in NOT_PAIRS:
                check_error(self, lambda: kind(3, [pair]), e.BadNet, 0)
                check_error(self, lambda: kind(3, ((0, 1), pair, pair)), e.BadNet, 1)

    def test_each_method_in_the_body_of_its_class(self):
        for name in ("many", "gates", "inner", "between", "ends_of", "__len__", "__iter__", "__contains__", "__eq__",
                     "__invert__", "__add__"):
            self.assertIn(name, vars(Net))
        self.assertIn("gates", vars(Twoway))
        self.assertNotIn("gates", vars(Oneway))

    def test_gates(self):
        ties = [(0, 1), (1, 0), (1, 2), (2, 2), (0, 1)]
        self.assertEqual(Oneway(3, ties).gates([0]), (0, 4))
        self.assertEqual(Oneway(3, ties).gates([2]), ())
        self.assertEqual(Oneway(3, ties).gates([1]), (1, 2))
        self.assertEqual(Twoway(3, ties).gates([0]), (0, 1, 4))
        self.assertEqual(Twoway(3, ties).gates((2, 1)), (0, 1, 4))
        self.assertEqual(Net.gates(Twoway(3, ties), [0]), (0, 4))

    def test_gates_inner_and_between_by_their_words(self):
        for net, _ in small_cases(1, 60, least=1, most=5, ties=9):
            for one in subsets(range(net.size)):
                self.assertEqual(net.gates(one[::-1]), counted_gates(net, one))
                inside = tuple(at for at, (a, b) in enumerate(net.ties) if a in one and b in one)
                self.assertEqual(net.inner(list(one)), inside)
                for other in subsets(rest_of(net.size, one)):
                    self.assertEqual(net.between(one, other), between_ties(net, one, other))
            self.assertEqual((net.gates(()), net.gates(all_lot(net))), ((), ()))
            self.assertEqual((net.inner(()), net.inner(all_lot(net))), ((), tuple(range(net.many))))

    def test_a_side_and_its_rest(self):
        for net, _ in small_cases(2, 30):
            for lot in subsets(range(net.size)):
                there = rest_of(net.size, lot)
                if net.KIND == "twoway":
                    self.assertEqual(net.gates(lot), net.gates(there))
                self.assertEqual((~net).gates(there), net.gates(lot))

    def test_gates_of_two_lots_and_of_their_corners(self):
        for net, _ in small_cases(3, 40, most=4):
            for one in subsets(range(net.size)):
                for other in subsets(range(net.size)):
                    ends = [net.gates(one), net.gates(other)]
                    inside, outside = net.gates(meet(one, other)), net.gates(union(one, other))
                    across = net.between(less(one, other), less(other, one))
                    for tie in range(net.many):
                        before = sum(tie in gates for gates in ends)
                        behind = (tie in inside) + (tie in outside)
                        if tie in across:
                            self.assertEqual((before, behind), (2 if net.KIND == "twoway" else 1, 0))
                        else:
                            self.assertEqual(before, behind)

    def test_ends_of(self):
        net = Oneway(3, [[2, 0], (1, 1)])
        self.assertEqual((net.ends_of(0), net.ends_of(1)), ((2, 0), (1, 1)))
        check_error(self, lambda: Oneway(3, []).ends_of(0), e.BadTie, "tie")

    def test_length_and_iteration(self):
        net = Twoway(3, [[2, 0], (1, 1)])
        self.assertEqual((len(net), list(net), [pair for pair in net]), (2, [(2, 0), (1, 1)], [(2, 0), (1, 1)]))
        self.assertEqual((len(Oneway(2, ())), list(Oneway(2, ()))), (0, []))
        first, second = net
        self.assertEqual((first, second), ((2, 0), (1, 1)))

    def test_pair_in_net(self):
        for kind, back in ((Oneway, False), (Twoway, True)):
            net = kind(3, [(0, 1), (2, 2)])
            self.assertIs((0, 1) in net, True)
            self.assertIs([0, 1] in net, True)
            self.assertIs((1, 0) in net, back)
            self.assertIs([2, 2] in net, True)
            self.assertIs((1, 2) in net, False)
            self.assertIs((0, 0) in net, False)
            for pair in NOT_PAIRS + ((False, True),):
                self.assertIs(pair in net, False)

    def test_equal(self):
        ties = [(0, 1), (1, 2)]
        self.assertTrue(Oneway(3, ties) == Oneway(3, tuple(map(list, ties))))
        self.assertTrue(Twoway(3, ties) == Twoway(3, ties))
        self.assertFalse(Twoway(3, ties) != Twoway(3, ties))
        for other in (Twoway(3, ties), Oneway(4, ties), Oneway(3, ties[::-1]), Oneway(3, [(1, 0), (1, 2)]),
                      Oneway(3, ties + ties), None, 3, "oneway", ((0, 1), (1, 2)), True):
            self.assertIs(Oneway(3, ties) == other, False)
            self.assertIs(Oneway(3, ties) != other, True)

    def test_turned(self):
        for net, _ in small_cases(4, 20, least=1):
            turned = ~net
            self.assertEqual((turned.KIND, turned.size), (net.KIND, net.size))
            self.assertEqual(turned.ties, tuple((b, a) for a, b in net.ties))
            self.assertIs(type(turned), type(net))
            self.assertTrue(~turned == net)

    def test_glued(self):
        for kind in (Oneway, Twoway):
            net = kind(3, [(0, 2), (1, 2)]) + kind(2, [(0, 1), (1, 1)])
            self.assertIs(type(net), kind)
            self.assertEqual((net.size, net.ties), (4, ((0, 2), (1, 2), (2, 3), (3, 3))))
            self.assertTrue(kind(1, []) + kind(1, []) == kind(1, []))

    def test_costs_in_glued_nets(self):
        cases = small_cases(5, 40, least=1, most=3)
        for (one, u), (other, v) in zip(cases, cases[2:]):
            whole = one + other
            for lot in subsets(range(whole.size)):
                here = tuple(p for p in lot if p < one.size)
                there = tuple(p - one.size + 1 for p in lot if p >= one.size - 1)
                told = counted_cost(one, u, here) + counted_cost(other, v, there)
                self.assertEqual(counted_cost(whole, u + v, lot), told)

    def test_only_nets_are_glued_to_a_net(self):
        with self.assertRaises(TypeError):
            Oneway(2, []) + 3

    def test_gluing_that_fails(self):
        check_error(self, lambda: Oneway(12, [(0, 1)] * 40) + Twoway(12, [(0, 1)] * 40), e.OtherKind)
        for kind in (Oneway, Twoway):
            check_error(self, lambda: kind(12, [(0, 1)] * 40) + kind(2, [(0, 1)]), e.BadNumber, "size")
            check_error(self, lambda: kind(11, [(0, 1)] * 40) + kind(2, [(0, 1)]), e.BadNet, -1)
            self.assertEqual((kind(11, [(0, 1)] * 39) + kind(2, [(0, 1)])).many, 40)

    def test_check_twoway_and_all_lot(self):
        self.assertIsNone(check_twoway(Twoway(1, [])))
        check_error(self, lambda: check_twoway(Oneway(1, [])), e.NotTwoway)
        self.assertEqual(all_lot(Oneway(4, [])), (0, 1, 2, 3))
        self.assertEqual(all_lot(Twoway(1, [])), (0,))


if __name__ == "__main__":
    unittest.main()
