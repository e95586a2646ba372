"""[84] to [87]: what is far off shrunk to one place, and the pairs that stay settled."""

import unittest

from leastgates import errors as e
from leastgates.always import always_holders
from leastgates.far import far_shrunk, near_pairs, pairs_behind, shrink_row
from leastgates.families import Listed, Told
from leastgates.flows import flow_between
from leastgates.gaps import alike
from leastgates.nets import Oneway, Twoway
from leastgates.serving import serves, settled_pairs
from leastgates.shapes import behind, lifted, shrunk
from leastgates.solid import always_solid
from leastgates.stretches import Stretches
from tests.support import check_error, rest_of, sides_of, some, subsets
from tests.worlds import Counted, family_cases

MOST = 10 ** 30
THREE = Twoway(4, [(0, 1), (0, 2), (1, 3)])


def keeps_pairs(net, family, lot):
    """What [85] asks of the lot."""
    if always_holders(net, family, lot):
        return True
    return isinstance(family, Stretches) and always_solid(net, family, lot)


class Pairs(unittest.TestCase):
    def test_against_a_counting(self):
        apart = 0
        for net, family, worlds in family_cases(380, 12, kinds=(Twoway,), least=1, ties=8, top=2):
            told = Counted(net, worlds).settled()
            for lot in subsets(range(net.size))[1:]:
                outside = rest_of(net.size, lot)
                near = [(p, q) for p, q in told if p < q and p in outside and q in outside]
                small = Counted(shrunk(net, lot), worlds)
                far = [(outside[p], outside[q]) for p, q in small.settled() if p < q < len(outside)]
                self.assertEqual(near_pairs(net, family, lot[::-1]), near)
                self.assertEqual(pairs_behind(net, family, list(lot)), far)
                if keeps_pairs(net, family, lot):
                    self.assertEqual(near, far)
                apart += near != far
        self.assertGreater(apart, 0)

    def test_the_sides_that_serve_behind_shrinking(self):
        for net, family, worlds in family_cases(381, 6, kinds=(Twoway,), least=3):
            for lot in some(381, subsets(range(net.size))[1:-1], 6):
                if keeps_pairs(net, family, lot):
                    self.check_sides(net, family, Counted(net, worlds), lot)

    def check_sides(self, net, family, counted, lot):
        small = shrunk(net, lot)
        outside = rest_of(net.size, lot)
        for p in outside:
            for q in outside:
                if p != q:
                    told = counted.serving((p,), (q,))
                    two = [[behind(net.size, lot, place)] for place in (p, q)]
                    for side in sides_of(small.size):
                        found = serves(small, family, *two, side)
                        self.assertIs(found, lifted(net.size, lot, side) in told)
        for one in subsets(range(small.size)):
            for other in subsets(range(small.size)):
                lots = [lifted(net.size, lot, side) for side in (one, other)]
                self.assertIs(alike(small, family, one, other), counted.alike(*lots))

    def test_the_example(self):
        family = Listed((1, 1, 2), (1, 2, 1))
        self.assertEqual((near_pairs(THREE, family, [0, 1]), pairs_behind(THREE, family, [0, 1])), ([(2, 3)], []))
        self.assertIs(always_solid(THREE, family, [0, 1]), True)
        self.assertEqual(always_holders(THREE, family, [0, 1]), ())

    def test_the_whole_net_and_one_place(self):
        family = Told([1, 2, 3])
        self.assertEqual((near_pairs(THREE, family, [3, 1, 0, 2]), pairs_behind(THREE, family, [0, 1, 2, 3])), ([], []))
        whole = settled_pairs(THREE, family)
        for place in range(4):
            told = [pair for pair in whole if place not in pair]
            self.assertEqual((near_pairs(THREE, family, [place]), pairs_behind(THREE, family, [place])), (told, told))
        self.assertEqual(near_pairs(Twoway(1, []), Told([]), [0]), [])


class Far(unittest.TestCase):
    def test_beyond_a_serving_side(self):
        for net, family, worlds in family_cases(382, 5, kinds=(Twoway,), least=3):
            counted = Counted(net, worlds)
            for p, q in counted.pairs():
                for side in some(382, counted.serving((p,), (q,)), 2):
                    self.check_beyond(net, family, counted, side)

    def check_beyond(self, net, family, counted, side):
        small = far_shrunk(net, list(side[::-1]))
        others = rest_of(net.size, side)
        self.assertEqual(small, shrunk(net, others))
        self.assertEqual(near_pairs(net, family, others), pairs_behind(net, family, others))
        self.assertEqual(near_pairs(net, family, side), pairs_behind(net, family, side))
        holders = always_holders(~net, family, others)
        for world in counted.worlds[:5]:
            for v in side:
                for r in side:
                    if v != r:
                        told = flow_between(small, world, side.index(v), side.index(r))
                        self.assertEqual(told, flow_between(net, world, v, r))
                for q in holders:
                    told = flow_between(small, world, side.index(v), small.size - 1)
                    self.assertEqual(told, flow_between(net, world, v, q))

    def test_far_shrunk(self):
        self.assertEqual(far_shrunk(THREE, [2, 0]), Twoway(3, [(0, 2), (0, 1), (2, 2)]))
        check_error(self, lambda: far_shrunk(THREE, [2, 0, 1, 3]), e.NotASide)
        check_error(self, lambda: far_shrunk(Twoway(9, []), []), e.NotASide)
        check_error(self, lambda: far_shrunk(Oneway(4, []), None), e.NotTwoway)

    def test_the_family_stays(self):
        with self.assertRaises(e.OtherSize):
            pairs_behind(THREE, Told([1, 2]), [0])


class Rows(unittest.TestCase):
    def test_shrink_row(self):
        net = Twoway(5, [(0, 1), (1, 2), (2, 3), (3, 4), (0, 4)])
        found = shrink_row(net, ([1, 0], (3,), [0, 2]))
        told = [net, shrunk(net, [0, 1])]
        told.append(shrunk(told[-1], [3]))
        told.append(shrunk(told[-1], [0, 2]))
        self.assertEqual(found, told)
        self.assertEqual([part.size for part in found], [5, 4, 4, 3])
        self.assertEqual(shrink_row(net, []), [net])
        self.assertEqual(shrink_row(net, ())[0].ties, net.ties)

    def test_lots_that_were_shrunk_before(self):
        for net, _, _ in family_cases(383, 6, words=("told",), kinds=(Twoway,), least=3):
            for lot in some(383, subsets(range(net.size))[1:], 5):
                small = shrunk(net, lot)
                for more in subsets(range(small.size))[1:]:
                    if small.size - 1 in more:
                        found = shrink_row(net, [lot, more])
                        self.assertEqual(found[-1], shrunk(net, lifted(net.size, lot, more)))

    def test_errors(self):
        net = Twoway(4, [(0, 1)])
        check_error(self, lambda: shrink_row(net, [[0, 1], [3]]), e.BadLot, 0)
        check_error(self, lambda: shrink_row(net, [[0, 1], [], [9]]), e.EmptyLot, "lot")
        check_error(self, lambda: shrink_row(net, [[0, 1], [0, 0], []]), e.BadLot, 1)
        check_error(self, lambda: shrink_row(net, [7]), e.BadLot, -1)
        check_error(self, lambda: shrink_row(Twoway(9, []), 7), e.BadTable, -1)
        check_error(self, lambda: shrink_row(Twoway(9, []), [7]), e.TooMany, 9)
        check_error(self, lambda: shrink_row(Twoway(9, []), []), e.TooMany, 9)
        check_error(self, lambda: shrink_row(Oneway(9, []), 7), e.NotTwoway)


class Sizes(unittest.TestCase):
    def test_eight_places(self):
        net = Twoway(8, [(p, p + 1) for p in range(7)])
        family = Stretches([(at, MOST) for at in range(1, 8)])
        lot = [0, 1, 2]
        self.assertEqual(pairs_behind(net, family, lot), near_pairs(net, family, lot))
        self.assertEqual(near_pairs(net, family, lot), [(p, p + 1) for p in range(3, 7)])


if __name__ == "__main__":
    unittest.main()
