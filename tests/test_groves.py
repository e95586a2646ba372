"""[2], [3], [106], [108], [109]: groves, against a counting of all sides in all worlds."""

import inspect
import unittest
from random import Random

from leastgates import errors as e
from leastgates.families import Listed, Told
from leastgates.groves import Grove
from leastgates.nets import Oneway, Twoway
from leastgates.stretches import Stretches
from leastgates.steps import full_grove
from tests.support import check_error, rest_of
from tests.woods import (MOST, grove_side, grove_way, random_edges, random_lots, serves_two, settled_two,
                         two_families, web_families)
from tests.worlds import KINDS

NET = Twoway(4, [(0, 1), (1, 2), (2, 3), (0, 3), (1, 1)])
TOLD = Told((3, 2, 4, 1, 2))
LOTS = [[3], (1, 0), [2]]
CASES = two_families(1060, 5, least=1, most=4) + web_families(1061, 4)


def random_grove(random, size):
    """Lots, edges and posts that have the right form."""
    lots = random_lots(random, size, random.randint(1, size))
    edges = [random.choice((edge, edge[::-1])) for edge in random_edges(random, len(lots))]
    posts = [[random.choice(lots[i]), random.choice(lots[j])] for i, j in edges]
    return lots, edges, posts


class Groves(unittest.TestCase):
    def test_which_are_groves(self):
        random = Random(106)
        right = wrong = 0
        for net, family, worlds, counted in CASES:
            for _ in range(14):
                lots, edges, posts = random_grove(random, net.size)
                due = None
                for at, ((i, j), (a, b)) in enumerate(zip(edges, posts)):
                    side = grove_side(lots, edges, at, i)
                    if due is None and not serves_two(counted, side, a, b):
                        due = side
                if due is None:
                    self.check(Grove(net, family, lots, edges, posts), lots, edges, posts, counted)
                    right += len(lots) > 1
                else:
                    check_error(self, lambda: Grove(net, family, lots, edges, posts), e.NotServing, due)
                    wrong += 1
        self.assertGreater(min(right, wrong), 50)

    def check(self, grove, lots, edges, posts, counted):
        """All that [106] and the interface tell of a grove."""
        numbers = sorted(range(len(lots)), key=lambda number: min(lots[number]))
        told_lots = tuple(tuple(sorted(lots[number])) for number in numbers)
        rows = []
        for (i, j), (a, b) in zip(edges, posts):
            first, second = numbers.index(i), numbers.index(j)
            rows.append(((first, second), (a, b)) if first < second else ((second, first), (b, a)))
        rows.sort()
        self.assertEqual(grove.lots, told_lots)
        self.assertEqual(grove.edges, tuple(pair for pair, _ in rows))
        self.assertEqual(grove.posts, tuple(ends for _, ends in rows))
        for value in (grove.lots, grove.edges, grove.posts):
            self.assertTrue(type(value) is tuple and all(type(item) is tuple for item in value))
        self.assertEqual((grove.many, len(grove), list(grove)), (len(rows), len(lots), list(told_lots)))
        sides = [grove_side(grove.lots, grove.edges, at, i) for at, (i, _) in enumerate(grove.edges)]
        self.assertEqual((grove.side_list(), [grove.side(at) for at in range(grove.many)]), (sides, sides))
        self.assertEqual([place in grove.lots[grove.lot_at(place)] for place in counted.whole],
                         [True] * counted.size)
        self.check_ways(grove, sides, counted)
        self.check_words(grove)

    def check_ways(self, grove, sides, counted):
        told = []
        for one in counted.whole:
            for other in counted.whole:
                way = grove_way(grove.lots, grove.edges, one, other)
                self.assertEqual(grove.way(one, other), way)
                if one != other:
                    serving = [at for at in way if serves_two(counted, sides[at], one, other)]
                    self.assertEqual(grove.serving(one, other), serving[0] if serving else None)
                    told += [(one, other)] if serving and one < other else []
        self.assertEqual(list(grove.told_pairs()), told)
        inside = [(p, q) for p, q in settled_two(counted) if grove.lot_at(p) == grove.lot_at(q)]
        self.assertEqual(grove.next_pair(), inside[0] if inside else None)
        self.assertIs(grove.is_full(), not inside)

    def check_words(self, grove):
        lines = ["%s - %s : %d %d\n" % (" ".join(map(str, grove.lots[i])), " ".join(map(str, grove.lots[j])), a, b)
                 for (i, j), (a, b) in zip(grove.edges, grove.posts)]
        if len(grove) == 1:
            lines = [" ".join(map(str, grove.lots[0])) + "\n"]
        self.assertEqual(grove.words(), "".join(lines))

    def test_order_of_the_parts(self):
        grove = Grove(NET, TOLD, LOTS, [(0, 2), [2, 1]], [[3, 2], (2, 1)])
        self.assertEqual((grove.lots, grove.edges, grove.posts),
                         (((0, 1), (2,), (3,)), ((0, 1), (1, 2)), ((1, 2), (2, 3))))
        self.assertEqual(grove.side_list(), [(0, 1), (0, 1, 2)])
        self.assertEqual(grove.words(), "0 1 - 2 : 1 2\n2 - 3 : 2 3\n")
        self.assertEqual((list(grove.told_pairs()), grove.next_pair(), grove.is_full()),
                         ([(0, 2), (0, 3), (1, 2), (1, 3), (2, 3)], (0, 1), False))
        self.assertEqual((grove.serving(3, 0), grove.serving(2, 3), grove.serving(1, 0), grove.way(0, 3)),
                         (0, 1, None, (0, 1)))
        self.assertTrue(grove.net == NET and grove.family == TOLD)

    def test_the_first_side_that_does_not_serve_as_passed(self):
        lots, edges = [[0, 2], [3], [1]], [[1, 0], (0, 2)]
        check_error(self, lambda: Grove(NET, TOLD, lots, edges, [(3, 2), (0, 1)]), e.NotServing, (0, 2, 3))
        check_error(self, lambda: Grove(NET, TOLD, lots, edges, [(3, 0), (2, 1)]), e.NotServing, (3,))
        check_error(self, lambda: Grove(NET, TOLD, [[0, 2], [1, 3]], [(1, 0)], [(1, 0)]), e.NotServing, (1, 3))
        check_error(self, lambda: Grove(NET, TOLD, [[0, 2], [1, 3]], [(0, 1)], [(0, 1)]), e.NotServing, (0, 2))

    def test_one_place_two_and_eight(self):
        for family in (Told(()), Listed(()), Stretches([])):
            grove = Grove(Twoway(1, []), family, [(0,)], [], ())
            self.assertEqual((grove.lots, grove.edges, grove.posts, grove.many, len(grove)), (((0,),), (), (), 0, 1))
            self.assertEqual((grove.words(), list(grove.told_pairs()), grove.next_pair()), ("0\n", [], None))
            self.assertEqual((grove.is_full(), grove.side_list(), grove.way(0, 0)), (True, [], ()))
            check_error(self, lambda: grove.side(0), e.BadNumber, "at")
        grove = Grove(Twoway(2, [(0, 1)]), Told((MOST,)), [[1], [0]], [(0, 1)], [(1, 0)])
        self.assertEqual((grove.words(), grove.serving(1, 0), grove.is_full()), ("0 - 1 : 0 1\n", 0, True))
        net = Twoway(8, [(p, p + 1) for p in range(7)])
        lots = [[p] for p in range(7, -1, -1)]
        pairs = [(p, p + 1) for p in range(7)]
        grove = Grove(net, Stretches([(p, 2 * p) for p in range(7)]), lots, [(7 - p, 6 - p) for p in range(7)], pairs)
        self.assertEqual((grove.posts, grove.edges, len(grove), grove.is_full()), (tuple(pairs), tuple(pairs), 8, True))
        big = Twoway(9, [])
        lots = [[0, 1, 2, 3, 4, 5, 6], [7, 8]]
        check_error(self, lambda: Grove(big, Told(()), lots, [(0, 1)], [(0, 7)]), e.TooMany, 9)
        check_error(self, lambda: Grove(big, Told(()), lots, [(0, 1)], [(7, 0)]), e.BadTable, 0)

    def test_objects_keep_copies(self):
        lots, edges, posts = [[3], [1, 0], [2]], [[0, 2], [2, 1]], [[3, 2], [2, 1]]
        grove = Grove(NET, TOLD, lots, edges, posts)
        kept = grove.lots, grove.edges, grove.posts, grove.words()
        lots[0][0] = 1
        lots.pop()
        edges[0][0] = 1
        posts[1][0] = 0
        self.assertEqual((grove.lots, grove.edges, grove.posts, grove.words()), kept)
        grove.side_list().pop()
        self.assertEqual(grove.side_list(), [(0, 1), (0, 1, 2)])

    def test_errors_of_form(self):
        def made(lots, edges, posts, net=NET, family=TOLD):
            return lambda: Grove(net, family, lots, edges, posts)

        check_error(self, made(None, 0, 0, net=Oneway(9, [])), e.NotTwoway)
        check_error(self, made(None, 0, 0, family=Told((1,))), e.OtherSize, 1)
        for lots, at in ((None, -1), ("01", -1), ([], -1), ((), -1), ([[0, 1, 2]], -1), ([[0], [1], [3]], -1),
                         ([[0, 1], [], [2, 3]], 1), ([[0, 1], [2, 1], [3]], 1), ([[0, 1], [4]], 1), ([3, [0]], 0),
                         ([[0, 1, 2, 3], [3]], 1), ([[0, 0]], 0), ([[0, 1], [2], [True]], 2), ([[0], [1], ()], 2)):
            check_error(self, made(lots, 0, 0), e.BadLot, at)
        for edges, at in ((None, -1), ([], -1), ([(0, 1)], -1), ([(0, 1), (1, 2), (0, 2)], -1),
                          ([(0, 1), (1, 0)], 1), ([(0, 3), (0, 1)], 0), ([(0, 1), (2, 2)], 1), ([(0, 1), None], 1)):
            check_error(self, made(LOTS, edges, 0), e.BadTree, at)
        edges = [(0, 2), (2, 1)]
        for posts, at in ((None, -1), ([], -1), ([(3, 2)], -1), ([(3, 2)] * 3, -1), ([(2, 3), (2, 1)], 0),
                          ([(3, 2), (1, 2)], 1), ([(3, 2), None], 1), ([(3, 2), (2,)], 1), ([(3, 2, 2), (2, 1)], 0),
                          ([(3, 4), (2, 1)], 0), ([(3, 2), (2, True)], 1), ([(3, 3), (2, 2)], 0)):
            check_error(self, made(LOTS, edges, posts), e.BadTable, at)

    def test_errors_of_methods(self):
        grove = Grove(NET, TOLD, LOTS, [(0, 2), [2, 1]], [[3, 2], (2, 1)])
        for at in (-1, 2, True, None, "0", [0], 0.0):
            check_error(self, lambda: grove.side(at), e.BadNumber, "at")
        for place in (-1, 4, False, None, "0", [0]):
            check_error(self, lambda: grove.lot_at(place), e.BadPlace, "place")
            for method in (grove.way, grove.serving):
                check_error(self, lambda: method(place, None), e.BadPlace, "one")
                check_error(self, lambda: method(0, place), e.BadPlace, "other")
        check_error(self, lambda: grove.serving(2, 2), e.SamePlace, 2)
        self.assertEqual((grove.way(2, 2), grove.way(0, 1)), ((), ()))

    def test_the_class(self):
        for name in ("side", "side_list", "lot_at", "way", "serving", "next_pair", "is_full", "told_pairs", "words",
                     "many", "__len__", "__iter__"):
            self.assertIn(name, vars(Grove))
        self.assertIsInstance(vars(Grove)["many"], property)
        self.assertTrue(inspect.isgeneratorfunction(Grove.told_pairs))


class FullGroves(unittest.TestCase):
    def test_what_full_groves_tell(self):
        for net, family, worlds, counted in CASES:
            settled = settled_two(counted)
            for grove in (full_grove(net, family), full_grove(net, family, last=True)):
                self.assertEqual(list(grove.told_pairs()), settled)
                self.assertTrue(grove.is_full() and grove.next_pair() is None)
                self.assertTrue(net.size != 2 or grove.many == 1)
                for p, q in settled:
                    self.check_pair(grove, counted, p, q)

    def check_pair(self, grove, counted, p, q):
        """[108]: F is the least cost on the way; the sides that serve are alike, and to no other side on the way."""
        sides = [grove.side(at) for at in grove.way(p, q)]
        for costs, flow in zip(counted.costs, counted.flows((p,), (q,))):
            self.assertEqual(min(costs[side] for side in sides), flow)
        serving = [side for side in sides if serves_two(counted, side, p, q)]
        for side in sides:
            self.assertIs(counted.alike(side, serving[0]), side in serving)

    def test_sides_do_not_cross(self):
        for net, family, worlds, counted in CASES:
            sides = full_grove(net, family).side_list()
            for at, one in enumerate(sides):
                for other in sides[at + 1:]:
                    corners = [set(one) & set(other), set(one) - set(other), set(other) - set(one),
                               set(counted.whole) - set(one) - set(other)]
                    self.assertFalse(all(corners))
                    self.assertNotIn(one, (other, rest_of(net.size, other)))

    def test_all_kinds_of_families(self):
        self.assertEqual({family.WORD for _, family, _, _ in CASES}, set(KINDS))


if __name__ == "__main__":
    unittest.main()
