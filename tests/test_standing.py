"""[76], [77], [81], [82], [87]: places that stand for their lots, and nets around a lot."""

import unittest
from random import Random

from leastgates import errors as e
from leastgates.always import always_holders
from leastgates.flows import flow, flow_between
from leastgates.nets import Oneway, Twoway
from leastgates.serving import serving_sides
from leastgates.shapes import behind, lifted, shrunk
from leastgates.solid import is_solid
from leastgates.standing import around, around_world, inside_lot, stands
from tests.support import (check_error, counted_cost, counted_gates, counted_holds, rest_of, small_cases, some, subsets)
from tests.worlds import Counted, family_cases

MOST = 10 ** 30
SIX = Twoway(4, [(0, 1), (0, 3), (1, 2), (1, 3), (2, 0), (2, 3)])
KNOWN = (1, 2, 1, 2, 1, 2)


def inner_ties(net, lot):
    return [tie for tie, (a, b) in enumerate(net.ties) if a in lot and b in lot]


class Stands(unittest.TestCase):
    def test_just_the_holders(self):
        for net, world in small_cases(370, 80, least=1):
            for lot in subsets(range(net.size))[1:]:
                for place in lot:
                    told = counted_holds(net, world, (place,), lot)
                    self.assertIs(stands(net, list(world), place, lot[::-1]), told)

    def test_in_nets_around_the_lot(self):
        random = Random(371)
        for net, world in small_cases(371, 60, least=1, ties=9):
            for lot in some(371, subsets(range(net.size))[1:], 5):
                for _ in range(4):
                    found, capacities = self.net_around(random, net, world, lot)
                    for at, place in enumerate(lot):
                        if stands(net, world, place, lot):
                            self.check_stands(net, found, capacities, lot, at)

    def net_around(self, random, net, world, lot):
        places = random.randint(1, 3)
        ends = [random.randrange(places) for _ in counted_gates(net, lot)]
        more = [(random.randrange(places), random.randrange(places)) for _ in range(random.randint(0, 3))]
        found = around(net, lot, ends, more=more, places=places)
        return found, around_world(net, lot, world, [random.randint(0, 3) for _ in more])

    def check_stands(self, net, found, capacities, lot, at):
        whole = inside_lot(net.size, lot)
        for q in range(len(lot), found.size):
            told = flow(found, capacities, whole, (q,))
            self.assertEqual(flow_between(found, capacities, at, q), told)

    def test_one_place_outside_tells(self):
        seen = set()
        for net, world in small_cases(372, 100):
            for lot in subsets(range(net.size))[1:-1]:
                found = around(net, lot, [0] * len(counted_gates(net, lot)))
                capacities = around_world(net, lot, world, ())
                whole = flow(found, capacities, inside_lot(net.size, lot), (len(lot),))
                self.assertEqual(whole, counted_cost(net, world, lot))
                for at, place in enumerate(lot):
                    told = flow_between(found, capacities, at, len(lot)) == whole
                    self.assertIs(stands(net, world, place, lot), told)
                    seen.add(told)
        self.assertEqual(seen, {True, False})

    def test_a_solid_lot_without_a_holder(self):
        self.assertIs(is_solid(SIX, KNOWN, [0, 1, 2]), True)
        self.assertEqual([stands(SIX, KNOWN, place, [0, 1, 2]) for place in range(3)], [False] * 3)


class Around(unittest.TestCase):
    def test_by_the_words(self):
        random = Random(373)
        for net, world in small_cases(373, 80, least=1, ties=8):
            for lot in some(373, subsets(range(net.size))[1:], 6):
                places = random.randint(1, 3)
                gates = counted_gates(net, lot)
                ends = [random.randrange(places) for _ in gates]
                more = [(random.randrange(places), random.randrange(places)) for _ in range(random.randint(0, 3))]
                amounts = [random.randint(0, 3) for _ in more]
                ties = [tuple(lot.index(place) for place in net.ties[tie]) for tie in inner_ties(net, lot)]
                for tie, end in zip(gates, ends):
                    ties.append(tuple(lot.index(p) if p in lot else len(lot) + end for p in net.ties[tie]))
                ties += [(len(lot) + a, len(lot) + b) for a, b in more]
                found = around(net, lot[::-1], tuple(ends), more=[list(pair) for pair in more], places=places)
                self.assertEqual(found, type(net)(len(lot) + places, ties))
                kept = [world[tie] for tie in inner_ties(net, lot) + list(gates)]
                self.assertEqual(around_world(net, list(lot[::-1]), list(world), amounts), tuple(kept + amounts))

    def test_the_example(self):
        found = around(SIX, [0, 1, 2], [0, 0, 1], more=[(0, 1)], places=2)
        self.assertEqual(found.ties, ((0, 1), (1, 2), (2, 0), (0, 3), (1, 3), (2, 4), (3, 4)))
        self.assertEqual(around_world(SIX, [0, 1, 2], KNOWN, [7]), (1, 1, 1, 2, 2, 2, 7))

    def test_places_and_more_left_out(self):
        net = Oneway(3, [(1, 0), (0, 1), (2, 1), (1, 1)])
        self.assertEqual(around(net, [1], [0]), Oneway(2, [(0, 0), (0, 1)]))
        self.assertEqual(around(net, [0, 1, 2], [], places=0), Oneway(3, [(1, 0), (0, 1), (2, 1), (1, 1)]))
        self.assertEqual(around(net, [0, 2], [0, 0], places=1, more=()), Oneway(3, [(0, 2), (1, 2)]))
        self.assertEqual(around(Oneway(2, [(0, 1)]), [1], [], places=0), Oneway(1, []))
        self.assertEqual(around(Twoway(2, []), [1], [], places=0, more=[]), Twoway(1, []))
        with self.assertRaises(TypeError):
            around(net, [1], [0], ())

    def test_errors_about_places(self):
        net = Twoway(4, [(0, 1), (1, 2)])
        for lot, places in (([0, 1], 11), ([0, 1], -1), ([0], 12), ([0], True), ([0], None), ([], 13)):
            check_error(self, lambda: around(net, lot, None, more=None, places=places), e.BadNumber, "places")
        self.assertEqual(around(net, [0, 1], [9], places=10).size, 12)
        check_error(self, lambda: around(net, [0, 1], [0], places=0), e.BadTies, 0)
        check_error(self, lambda: around(net, [0, 1], [], places=0), e.BadTies, -1)
        check_error(self, lambda: around(net, [0, 1], [1]), e.BadTies, 0)
        check_error(self, lambda: around(net, [0, 1], [0], places=0, more=None), e.BadTies, 0)

    def test_errors_about_more(self):
        net = Twoway(4, [(0, 1), (1, 2)])
        check_error(self, lambda: around(net, [0, 1], [0], more=[(0, 0)] * 39), e.BadTies, -1)
        check_error(self, lambda: around(net, [0, 1], [0], more=[(0, 1)] * 39), e.BadTies, -1)
        self.assertEqual(around(net, [0, 1], [0], more=[(0, 0)] * 38).many, 40)
        check_error(self, lambda: around(net, [0, 1], [0], more=[(0, 0), (0, 1)]), e.BadTies, 1)
        check_error(self, lambda: around(net, [3], [], more=[(0, 0)], places=0), e.BadTies, 0)
        check_error(self, lambda: around(net, [], [], more=[(0, 0)], places=0), e.BadTies, 0)
        check_error(self, lambda: around(net, [], [], places=0), e.EmptyLot, "lot")
        check_error(self, lambda: around(net, [], [], places=12), e.EmptyLot, "lot")
        check_error(self, lambda: around(Twoway(9, []), [0], [0]), e.BadTies, -1)
        check_error(self, lambda: around(Twoway(9, []), [], []), e.EmptyLot, "lot")
        check_error(self, lambda: around(Twoway(9, []), [0], []), e.TooMany, 9)

    def test_inside_lot(self):
        self.assertEqual(inside_lot(5, [4, 2]), (0, 1))
        self.assertEqual(inside_lot(12, list(range(12))), tuple(range(12)))
        check_error(self, lambda: inside_lot(12, []), e.EmptyLot, "lot")

    def test_around_world_takes_any_number_of_further_capacities(self):
        self.assertEqual(around_world(SIX, [3], KNOWN, ()), (2, 2, 2))
        self.assertEqual(around_world(SIX, [3], KNOWN, [MOST] * 50), (2, 2, 2) + (MOST,) * 50)
        check_error(self, lambda: around_world(SIX, [], KNOWN, [1, -1]), e.BadWorld, 1)
        check_error(self, lambda: around_world(SIX, [], [1], None), e.BadWorld, -1)


class InFamilies(unittest.TestCase):
    def test_an_always_holder_stands_for_its_lot(self):
        for net, family, worlds in family_cases(374, 5, kinds=(Twoway,), least=3):
            counted = Counted(net, worlds)
            for lot in some(374, subsets(range(net.size))[1:-1], 6):
                small = shrunk(net, lot)
                for p in always_holders(net, family, lot):
                    for q in rest_of(net.size, lot):
                        self.assertEqual(counted.flows((p,), (q,)), counted.flows(lot, (q,)))
                        self.check_served(net, family, counted, lot, small, p, q)

    def check_served(self, net, family, counted, lot, small, p, q):
        last = small.size - 1
        far = serving_sides(small, family, [last], [behind(net.size, lot, q)])
        told = counted.serving((p,), (q,))
        self.assertIs(far != [], told != [])
        for side in subsets(range(small.size)):
            self.assertIs(side in far, lifted(net.size, lot, side) in told)


class Sizes(unittest.TestCase):
    def test_eight_places_and_nine(self):
        for kind in (Oneway, Twoway):
            net = kind(8, [(p, p + 1) for p in range(7)])
            self.assertIs(stands(net, [MOST] * 7, 3, [0, 1, 2, 3]), True)
            self.assertIs(stands(net, [MOST] * 7, 0, list(range(8))), True)
            large = kind(9, [])
            for call in (lambda: stands(large, (), 0, [0]), lambda: around(large, [0], []),
                         lambda: around_world(large, [0], (), ())):
                check_error(self, call, e.TooMany, 9)
            check_error(self, lambda: stands(large, (), 0, [1]), e.NotInside, 0)


if __name__ == "__main__":
    unittest.main()
