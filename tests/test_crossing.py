"""[61], [66], [67], [68]: sides that cross and their corners, against a counting."""

import unittest

from leastgates import errors as e
from leastgates.changes import Losses, Moves
from leastgates.crossing import corner_for, empty_corners, never_cross, oneway_corners
from leastgates.families import Listed, Told
from leastgates.lots import corners
from leastgates.nets import Oneway, Twoway
from leastgates.stretches import Stretches
from tests.support import between_ties, check_error, less, meet, parts_pair, rest_of, sides_of, some, subsets, union
from tests.worlds import Counted, family_cases

MOST = 10 ** 30
RING = Twoway(4, [(0, 1), (1, 2), (2, 3), (0, 3)])


def corners_of(size, one, other):
    return [meet(one, other), less(one, other), less(other, one), rest_of(size, union(one, other))]


def serving_list(counted):
    """All triples of a side and two places that it serves, from the one that it has."""
    found = []
    for pair in counted.pairs():
        found += [(lot, pair) for lot in counted.serving(pair[:1], pair[1:])]
    return found


class CornerFor(unittest.TestCase):
    def test_against_a_counting(self):
        crossing = 0
        for net, family, worlds in family_cases(310, 12, kinds=(Twoway,), least=3, top=2):
            counted = Counted(net, worlds)
            found = some(310, serving_list(counted), 12)
            for x, pair in found:
                for y, other_pair in found:
                    lots = corners_of(net.size, x, y)
                    crossing += all(lots)
                    told = corner_for(net, family, list(x), pair[::-1], y[::-1], list(other_pair))
                    self.assertEqual(told, (self.first(counted, lots, x, pair), self.first(counted, lots, y, other_pair)))
                    for lot, two in zip(told, (pair, other_pair)):
                        inside = two if two[0] in lot else two[::-1]
                        self.assertTrue(counted.serves(inside[:1], inside[1:], lot))
        self.assertGreater(crossing, 100)

    def first(self, counted, lots, lot, pair):
        return next(corner for corner in lots if parts_pair(corner, *pair) and counted.alike(corner, lot))

    def test_refused_if_a_side_does_not_serve(self):
        for net, family, worlds in family_cases(311, 5, kinds=(Twoway,), least=3):
            counted = Counted(net, worlds)
            served = serving_list(counted)
            for x, pair in some(311, served, 5):
                for lot in subsets(range(net.size)):
                    for two in some(312, counted.pairs(), 4):
                        right = (lot, two) in served or (lot, two[::-1]) in served
                        if not right:
                            check_error(self, lambda: corner_for(net, family, lot[::-1], two, x, pair), e.NotServing, lot)
                            check_error(self, lambda: corner_for(net, family, x, pair, lot[::-1], two), e.NotServing, lot)

    def test_the_example(self):
        family = Told((1, 1, 1, 1))
        self.assertEqual(corner_for(RING, family, [0, 1], (0, 2), [1, 2], (1, 3)), ((0,), (1,)))
        self.assertEqual(corner_for(RING, family, [0, 1], (2, 0), [1, 2], [3, 1]), ((0,), (1,)))
        self.assertEqual(empty_corners(RING, family, [0, 1], [1, 2]), [((1,), (3,)), ((0,), (2,))])

    def test_order_of_errors(self):
        family = Told((1, 1, 1, 1))
        check_error(self, lambda: corner_for(RING, family, [0, 2], (0, 2), [], (1, 1)), e.SamePlace, 1)
        check_error(self, lambda: corner_for(RING, family, [0, 2], (0, 0), [], (1, 1)), e.SamePlace, 0)
        check_error(self, lambda: corner_for(RING, family, [2, 0], (0, 2), [], (1, 2)), e.NotServing, (0, 2))
        check_error(self, lambda: corner_for(RING, family, [0], (0, 2), [], (1, 2)), e.NotServing, ())
        check_error(self, lambda: corner_for(RING, family, [0], (0, 4), None, (1, 2)), e.BadPlace, "pair")
        check_error(self, lambda: corner_for(RING, family, [0], (0, 2), None, (1, 4)), e.BadLot, -1)


class EmptyCorners(unittest.TestCase):
    def test_against_a_counting(self):
        for net, family, worlds in family_cases(313, 5, least=1):
            dead = {tie for tie in range(net.many) if all(world[tie] == 0 for world in worlds)}
            lots = subsets(range(net.size))
            for x, y in some(313, [(x, y) for x in lots for y in lots], 40):
                inside, one, other, outside = corners_of(net.size, x, y)
                told = [pair for pair in ((inside, outside), (one, other)) if set(between_ties(net, *pair)) <= dead]
                self.assertEqual(empty_corners(net, family, list(x), y[::-1]), told)

    def test_of_two_serving_sides(self):
        for net, family, worlds in family_cases(314, 10, kinds=(Twoway,), least=3, top=2):
            counted = Counted(net, worlds)
            found = some(314, serving_list(counted), 10)
            for x, pair in found:
                for y, other_pair in found:
                    dead = empty_corners(net, family, x, y)
                    self.assertNotEqual(dead, [])
                    if not counted.alike(x, y):
                        self.check_opposite(net, counted, (x, pair), (y, other_pair), dead)

    def check_opposite(self, net, counted, one, other, dead):
        inside, first, second, outside = corners_of(net.size, one[0], other[0])
        right = []
        for pair, others in (((inside, outside), (first, second)), ((first, second), (inside, outside))):
            for a, b in (pair, pair[::-1]):
                right.append(others in dead and self.stands_for(counted, a, one) and self.stands_for(counted, b, other))
        self.assertTrue(any(right))

    def stands_for(self, counted, lot, served):
        side, pair = served
        return parts_pair(lot, *pair) and counted.alike(lot, side)

    def test_dead_ties(self):
        family = Stretches([(0, 0), (1, 1), (0, 1), (0, 0), (0, 0)])
        net = Twoway(4, [(0, 1), (1, 2), (2, 3), (1, 3), (0, 2)])
        self.assertEqual(empty_corners(net, family, [0, 1], [1, 2]), [((1,), (3,)), ((0,), (2,))])
        self.assertEqual(empty_corners(net, family, [0, 1], [1, 3]), [((0,), (3,))])
        self.assertEqual(empty_corners(net, family, [], [1, 3]), [((), (0, 2)), ((), (1, 3))])

    def test_both_kinds_of_nets(self):
        for kind in (Oneway, Twoway):
            net = kind(4, [(0, 2), (3, 1)])
            self.assertEqual(empty_corners(net, Told([0, 1]), [0, 1], [1, 2]), [((0,), (2,))])
            self.assertEqual(empty_corners(net, Told([1, 0]), [0, 1], [1, 2]), [((1,), (3,))])


class NeverCross(unittest.TestCase):
    def test_against_a_counting(self):
        seen = set()
        for net, family, worlds in family_cases(315, 15, kinds=(Twoway,), least=1, ties=9):
            alive = [pair for tie, pair in enumerate(net.ties) if any(world[tie] for world in worlds)]
            told = all((p, q) in alive or (q, p) in alive for p in range(net.size) for q in range(p))
            self.assertIs(never_cross(net, family), told)
            seen.add((net.size, told))
            if told:
                served = [lot for lot, _ in serving_list(Counted(net, worlds))]
                self.assertFalse(any(all(corners_of(net.size, x, y)) for x in served for y in served))
        self.assertTrue({(3, True), (3, False), (1, True)} <= seen)

    def test_four_places(self):
        whole = [(p, q) for p in range(4) for q in range(p)]
        net = Twoway(4, whole + [(0, 0)])
        self.assertIs(never_cross(net, Told([1] * 7)), True)
        self.assertIs(never_cross(net, Told([1, 1, 1, 0, 1, 1, 5])), False)
        self.assertIs(never_cross(net, Stretches([(0, 1)] * 7)), True)
        self.assertIs(never_cross(net, Moves([0] * 7, 1)), True)
        self.assertIs(never_cross(net, Moves([0] * 7, 0)), False)
        self.assertIs(never_cross(net, Losses([1] * 7, 7)), True)
        self.assertIs(never_cross(Twoway(4, whole[:-1]), Told([1] * 5)), False)
        self.assertIs(never_cross(Twoway(1, []), Told([])), True)
        self.assertIs(never_cross(Twoway(2, []), Told([])), False)


class OnewayCorners(unittest.TestCase):
    def test_against_the_words(self):
        for net in (Oneway(4, []), RING):
            for x in subsets(range(4)):
                for y in subsets(range(4)):
                    self.assertEqual(oneway_corners(net, x[::-1], list(y)), (meet(x, y), union(x, y)))
                    self.assertEqual(corners(4, x, y)[0], meet(x, y))

    def test_they_serve(self):
        used = 0
        for net, family, worlds in family_cases(316, 8, least=3, top=2):
            counted = Counted(net, worlds)
            found = some(316, serving_list(counted), 12)
            for x, (p, q) in found:
                for y, (r, s) in found:
                    if p in y and s not in x:
                        inside, whole = oneway_corners(net, x, y)
                        self.assertTrue(counted.serves((p,), (q,), inside) and counted.alike(inside, x))
                        self.assertTrue(counted.serves((r,), (s,), whole) and counted.alike(whole, y))
                        used += len({x, y, inside, whole}) == 4
        self.assertGreater(used, 10)


class Sizes(unittest.TestCase):
    def test_eight_places_and_nine(self):
        for size in (8, 9):
            net = Twoway(size, [(p, (p + 1) % size) for p in range(size)])
            family = Listed([MOST] * size, [1] * size)
            calls = (lambda: corner_for(net, family, [0], (0, 4), [0, 1], (1, 4)),
                     lambda: empty_corners(net, family, [0], sides_of(3)[1]),
                     lambda: oneway_corners(net, [0], [1]), lambda: never_cross(net, family))
            for call in calls:
                if size == 8:
                    self.assertIsNotNone(call())
                else:
                    check_error(self, call, e.TooMany, 9)


if __name__ == "__main__":
    unittest.main()
