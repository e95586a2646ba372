"""[25]: tables of the flows of two-way nets."""

import itertools
import unittest

from leastgates import errors as e
from leastgates.nets import Oneway, Twoway
from leastgates.tables import FlowTable, lesser_two, net_of_table
from tests.support import check_error, counted_flow, small_cases

MOST = 10 ** 30


def twoway_cases(seed, count, **limits):
    return [case for case in small_cases(seed, 2 * count, **limits) if case[0].KIND == "twoway"]


class Tables(unittest.TestCase):
    def test_flows_between_all_places(self):
        for net, world in twoway_cases(70, 60, least=1):
            table = FlowTable(net, list(world))
            self.assertIs(table.net, net)
            self.assertEqual(table.world, world)
            for p in range(net.size):
                for q in range(net.size):
                    told = None if p == q else counted_flow(net, world, (p,), (q,))
                    self.assertEqual(table[p, q], told)

    def test_numbers(self):
        for net, world in twoway_cases(71, 40, least=1):
            table = FlowTable(net, world)
            pairs = itertools.combinations(range(net.size), 2)
            told = sorted({counted_flow(net, world, (p,), (q,)) for p, q in pairs})
            self.assertEqual(table.numbers(), told)
            self.assertLessEqual(len(told), net.size - 1)
            table.numbers().append(7)
            self.assertEqual(table.numbers(), told)

    def test_classes(self):
        for net, world in twoway_cases(72, 40, least=1):
            table = FlowTable(net, world)
            for level in (-5, 0, 1, 2, 3, 4, 5, 9, MOST):
                found = table.classes(level)
                self.assertEqual(sorted(place for lot in found for place in lot), list(range(net.size)))
                self.assertEqual(found, sorted(found))
                for one in found:
                    for p, q in itertools.product(one, range(net.size)):
                        if p != q:
                            self.assertEqual(q in one, table[p, q] >= level)
            table.classes(1).append((0,))
            self.assertEqual(len(table.classes(-1)), 1)

    def test_lesser_two(self):
        for net, world in twoway_cases(73, 30, least=3):
            table = FlowTable(net, world)
            for p, q, r in itertools.permutations(range(net.size), 3):
                numbers = sorted([table[p, q], table[q, r], table[p, r]])
                self.assertEqual(numbers[0], numbers[1])
                self.assertEqual(lesser_two(table, p, q, r), numbers[0])

    def test_each_method_in_the_body_of_the_class(self):
        for name in ("__getitem__", "numbers", "classes"):
            self.assertIn(name, vars(FlowTable))

    def test_one_place(self):
        table = FlowTable(Twoway(1, [(0, 0)]), [5])
        self.assertEqual((table[0, 0], table.numbers(), table.classes(3)), (None, [], [(0,)]))

    def test_twelve_places(self):
        net = Twoway(12, [(p, p + 1) for p in range(11)] + [(0, 11)] * 29)
        table = FlowTable(net, [p + 1 for p in range(11)] + [MOST] * 29)
        self.assertEqual(table[0, 11], 29 * MOST + 1)
        self.assertEqual(table.classes(29 * MOST), [(0, 11)] + [(p,) for p in range(1, 11)])
        self.assertEqual(table[10, 1], 3)

    def test_the_flows_of_a_table_stay(self):
        world = [1, 3, 2]
        table = FlowTable(Twoway(3, [(0, 1), (1, 2), (0, 2)]), world)
        world[1] = 0
        self.assertEqual((table.world, table[1, 2]), ((1, 3, 2), 4))

    def test_refused(self):
        check_error(self, lambda: FlowTable(Oneway(1, []), [1]), e.NotTwoway)
        table = FlowTable(Twoway(3, []), [])
        check_error(self, lambda: table[3, 7], e.BadPlace, "one")
        check_error(self, lambda: table[2, True], e.BadPlace, "other")
        check_error(self, lambda: table.classes(None), e.BadNumber, "level")

    def test_the_example(self):
        table = FlowTable(Twoway(3, [(0, 1), (1, 2), (0, 2)]), (1, 3, 2))
        self.assertEqual(table.classes(4), [(0,), (1, 2)])


class NetsOfTables(unittest.TestCase):
    def test_tables_of_nets(self):
        for net, world in twoway_cases(74, 40, least=1, top=5):
            table = FlowTable(net, world)
            rows = [[table[p, q] for q in range(net.size)] for p in range(net.size)]
            made, made_world = net_of_table(net.size, rows)
            self.check_made(made, made_world, rows)

    def check_made(self, net, world, rows):
        self.assertIs(type(net), Twoway)
        self.assertIs(type(world), tuple)
        self.assertEqual(net.size, len(rows))
        for p, q in itertools.combinations(range(net.size), 2):
            self.assertEqual(counted_flow(net, world, (p,), (q,)), rows[p][q])

    def test_exactly_where_the_two_lesser_are_equal(self):
        for a, b, c, d, f, g in itertools.product(range(3), repeat=6):
            rows = ((None, a, b, c), ("x", [], d, f), (-1, True, 0, g), (None, None, None, None))
            wrong = self.least_wrong(rows)
            if wrong is None:
                self.check_made(*net_of_table(4, rows), rows)
            else:
                check_error(self, lambda: net_of_table(4, rows), e.BadTable, wrong)

    def least_wrong(self, rows):
        for p, q, r in itertools.combinations(range(4), 3):
            numbers = sorted([rows[p][q], rows[q][r], rows[p][r]])
            if numbers[0] != numbers[1]:
                return p
        return None

    def test_wrong_forms(self):
        for rows in (None, True, 2, "xx", {}, [], [[0, 0]], [[0, 0]] * 3, [[0], [0, 0]], [[0, 0], [0]], ["00", "00"],
                     [[0, 0], None], [[0, True], [0, 0]], [[0, -1], [0, 0]], [[0, None], [0, 0]], [[0, "1"], [0, 0]],
                     [[0, 1.0], [0, 0]], [[0, [1]], [0, 0]], [{}, {}]):
            check_error(self, lambda: net_of_table(2, rows), e.BadTable, -1)
        for size in (True, None, 0, 13, "2", [2]):
            check_error(self, lambda: net_of_table(size, None), e.BadNumber, "size")
        check_error(self, lambda: net_of_table(3, [[0, 1, 2], [0, 0, 3], [0, 0]]), e.BadTable, -1)
        self.assertEqual(net_of_table(2, ([None, 4], (True, "x")))[1], (4,))
        net, world = net_of_table(1, [["x"]])
        self.assertEqual((net.size, net.ties, world), (1, (), ()))

    def test_twelve_places(self):
        rows = [[min(p, q) * MOST for q in range(12)] for p in range(12)]
        net, world = net_of_table(12, rows)
        table = FlowTable(net, world)
        for p, q in itertools.combinations(range(12), 2):
            self.assertEqual(table[p, q], p * MOST)


if __name__ == "__main__":
    unittest.main()
