"""[17], [19]: the steps that flow rows leave, and closed lots."""

import unittest

from leastgates.errors import BadRow
from leastgates.flows import flow, greatest_flow
from leastgates.leasts import first_side
from leastgates.leftover import closed, grow_closed, steps_left
from leastgates.nets import Oneway, Twoway
from tests.support import (all_rows, apart_lots, check_error, counted_is_flow, counted_least, counted_value, fit_lots,
                           lies_in, small_cases, some, subsets)


def counted_steps(net, world, row):
    """The steps by the words of [19]."""
    found = set()
    for tie, (a, b) in enumerate(net.ties):
        if a != b:
            if row[tie] < world[tie]:
                found.add((a, b))
            if row[tie] > (-world[tie] if net.KIND == "twoway" else 0):
                found.add((b, a))
    return tuple(sorted(found))


def is_closed(steps, lot):
    return not any(c in lot and d not in lot for c, d in steps)


class Steps(unittest.TestCase):
    def test_examples(self):
        ties = [(0, 1), (0, 1), (1, 2), (2, 2)]
        self.assertEqual(steps_left(Oneway(3, ties), [2, 2, 3, 5], (0,), (2,), [2, 1, 3, 0]), ((0, 1), (1, 0), (2, 1)))
        self.assertEqual(steps_left(Oneway(3, ties), [2, 2, 3, 5], (0,), (2,), [0, 0, 0, 0]), ((0, 1), (1, 2)))
        self.assertEqual(steps_left(Twoway(3, ties), [2, 2, 3, 5], (0,), (2,), [2, 1, 3, 0]), ((0, 1), (1, 0), (2, 1)))
        self.assertEqual(steps_left(Twoway(3, ties), [0, 0, 3, 5], (0,), (2,), (0, 0, 0, 0)), ((1, 2), (2, 1)))
        self.assertEqual(steps_left(Twoway(2, []), [], (0,), (1,), []), ())

    def test_steps_by_their_words(self):
        for net, world in small_cases(50, 60, top=3):
            for sources, sinks in some(50, apart_lots(net.size), 10):
                row = greatest_flow(net, world, sources, sinks)
                steps = steps_left(net, list(world), sources, sinks, list(row))
                self.assertEqual(steps, counted_steps(net, world, row))

    def test_each_greatest_row_tells_the_least_sides(self):
        for net, world in small_cases(51, 60, most=4, ties=5, top=2):
            rows = all_rows(net, world)
            for sources, sinks in some(51, apart_lots(net.size), 5):
                greatest = flow(net, world, sources, sinks)
                for row in rows:
                    if counted_is_flow(net, world, sources, sinks, row):
                        steps = steps_left(net, world, sources, sinks, row)
                        self.assertEqual(steps, counted_steps(net, world, row))
                        if counted_value(net, sources, row) == greatest:
                            self.check_closed(net, world, sources, sinks, steps)

    def check_closed(self, net, world, sources, sinks, steps):
        least = counted_least(net, world, sources, sinks)
        fit = fit_lots(net.size, sources, sinks)
        self.assertEqual([side for side in fit if closed(steps, side)], least)
        self.assertEqual(grow_closed(net.size, steps, sources), first_side(net, world, sources, sinks))

    def test_no_flow_row(self):
        net = Twoway(3, [(0, 1), (1, 2), (1, 1)])
        for row in ([3, 3, 0], [1, 0, 0], [-1, -1, 0], [1, 1, 1]):
            check_error(self, lambda: steps_left(net, [2, 2, 2], [0], [2], row), BadRow, -1)
        check_error(self, lambda: steps_left(net, [2, 2, 2], [0], [2], [9, None, 0]), BadRow, 1)


class Closed(unittest.TestCase):
    def test_closed(self):
        steps = [(0, 1), [1, 2], (2, 1)]
        self.assertIs(closed(steps, [1, 2]), True)
        self.assertIs(closed(steps, (2, 1, 0)), True)
        self.assertIs(closed(tuple(steps), (0,)), False)
        self.assertIs(closed(steps, ()), True)
        self.assertIs(closed([], (5,)), True)

    def test_grow_closed(self):
        steps = [(0, 1), [1, 2], (2, 1), (3, 3)]
        self.assertEqual(grow_closed(5, steps, [0]), (0, 1, 2))
        self.assertEqual(grow_closed(5, tuple(steps), (4, 2)), (1, 2, 4))
        self.assertEqual((grow_closed(5, steps, ()), grow_closed(5, [], [3, 1])), ((), (1, 3)))
        self.assertEqual(grow_closed(12, [(p, p + 1) for p in range(11)], [0]), tuple(range(12)))

    def test_it_is_the_least_closed_lot(self):
        for net, _ in small_cases(52, 40):
            steps = [pair for pair in net.ties]
            for lot in subsets(range(net.size)):
                found = grow_closed(net.size, steps, lot[::-1])
                around = [more for more in subsets(range(net.size)) if lies_in(lot, more) and is_closed(steps, more)]
                self.assertEqual(found, around[0])
                self.assertTrue(all(lies_in(found, more) for more in around))
                self.assertEqual(closed(steps, lot), is_closed(steps, lot))


if __name__ == "__main__":
    unittest.main()
