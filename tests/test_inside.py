"""[42]: inner flows, and the holders that they make."""

import unittest

from leastgates import errors as e
from leastgates.inside import inner_flow, made_holder
from leastgates.nets import Oneway, Twoway
from tests.support import (check_error, counted_cost, counted_flow, counted_holds, is_twoway, small_cases, subsets)

MOST = 10 ** 30


def inner_net(net, world, lot):
    """The net with only the inner ties of the lot, and their capacities."""
    kept = [tie for tie, (a, b) in enumerate(net.ties) if a in lot and b in lot]
    return type(net)(net.size, [net.ties[tie] for tie in kept]), [world[tie] for tie in kept]


def places_of(lot):
    return [(p, q) for p in lot for q in lot if p != q]


class Inside(unittest.TestCase):
    def test_against_a_counting_in_the_net_of_the_inner_ties(self):
        for net, world in small_cases(200, 80):
            for lot in subsets(range(net.size)):
                small, capacities = inner_net(net, world, lot)
                for p, q in places_of(lot):
                    told = counted_flow(small, capacities, (p,), (q,))
                    self.assertEqual(inner_flow(net, list(world), list(lot[::-1]), p, q), told)

    def test_made_holder_compares_with_the_cost(self):
        seen = set()
        for net, world in small_cases(201, 80, ties=9):
            for lot in subsets(range(net.size)):
                small, capacities = inner_net(net, world, lot)
                for holder, place in places_of(lot):
                    if counted_holds(net, world, (holder,), lot):
                        enough = counted_flow(small, capacities, (place,), (holder,)) >= counted_cost(net, world, lot)
                        self.assertIs(made_holder(net, world, lot[::-1], holder, place), enough)
                        held = counted_holds(net, world, (place,), lot)
                        self.assertTrue(held or not enough)
                        seen.add((enough, held))
                    else:
                        error = self.not_held(net, world, lot, holder, place)
                        self.assertLess(counted_cost(net, world, error.lot), counted_cost(net, world, lot))
                        self.assertIn(holder, error.lot)
        # The converse is not true of every net: a holder that no inner flow makes one occurs, too.
        self.assertEqual(seen, {(True, True), (False, True), (False, False)})

    def not_held(self, net, world, lot, holder, place):
        with self.assertRaises(e.NotHeld) as found:
            made_holder(net, world, lot, holder, place)
        return found.exception

    def test_between_two_holders_of_a_twoway_net(self):
        for net, world in small_cases(202, 120, ties=9):
            if is_twoway(net):
                for lot in subsets(range(net.size)):
                    holders = [p for p in lot if counted_holds(net, world, (p,), lot)]
                    for p, q in places_of(holders):
                        flow = inner_flow(net, world, lot, p, q)
                        self.assertGreaterEqual(2 * flow, counted_cost(net, world, lot))

    def test_the_way_of_ties(self):
        net = Oneway(3, [(0, 1), (1, 2), (1, 1)])
        self.assertEqual(inner_flow(net, [2, 3, 9], [0, 1], 0, 1), 2)
        self.assertEqual(inner_flow(net, [2, 3, 9], [0, 1], 1, 0), 0)
        self.assertEqual(inner_flow(net, [2, 3, 9], [0, 1, 2], 0, 2), 2)
        self.assertEqual(inner_flow(net, [2, 3, 9], [0, 2], 0, 2), 0)

    def test_errors(self):
        net = Twoway(3, [(0, 1), (1, 2)])
        check_error(self, lambda: made_holder(net, (1, 2), [0, 1], 0, 1), e.NotHeld, (0,))
        check_error(self, lambda: made_holder(net, (1, 2), [0, 1], 1, 1), e.SamePlace, 1)
        check_error(self, lambda: inner_flow(net, (1, 2), [0, 1], 2, 2), e.NotInside, 2)
        check_error(self, lambda: inner_flow(net, (1, 2), [], 1, 0), e.NotInside, 1)
        self.assertIs(made_holder(net, (1, 2), [0, 1, 2], 0, 1), True)

    def test_twelve_places(self):
        net = Twoway(12, [(p, p + 1) for p in range(11)])
        self.assertEqual(inner_flow(net, [MOST] * 11, list(range(12)), 0, 11), MOST)
        self.assertEqual(inner_flow(net, [MOST] * 11, [0, 1, 3], 0, 3), 0)
        self.assertIs(made_holder(net, [MOST] * 11, list(range(6)), 5, 0), True)


if __name__ == "__main__":
    unittest.main()
