"""[129] to [131]: how much change held lots and cut trees bear, against families of moves and raised worlds."""

import unittest
from random import Random

from leastgates import errors as e
from leastgates.always import always_holds
from leastgates.changes import Losses, Moves
from leastgates.cuttrees import cut_tree, cut_trees
from leastgates.families import Told
from leastgates.nets import Oneway, Twoway
from leastgates.onetree import is_one_tree, one_tree
from leastgates.raising import raised
from leastgates.regrets import regret
from leastgates.rings import ring_tree
from leastgates.rooms import bears_change, best_room, held_room, rise_that_breaks, room
from leastgates.serving import serves
from leastgates.shapes import behind, merged
from leastgates.trees import Tree
from tests.support import (check_error, counted_cost, counted_gates, counted_holds, counted_least, lots_from,
                           pairs_inside, parts_pair, rest_of, small_cases, some)
from tests.woods import MOST, Wood, counted_trees, counted_way, one_trees, random_edges, two_cases
from tests.worlds import moved_worlds

CASES = two_cases(1300, 35, least=1, most=5, ties=7, top=4)
SMALL = two_cases(1301, 14, least=2, most=4, ties=4, top=3)


def counted_held_room(net, world, holders, lot):
    """By the words of [129], None for no lot that counts."""
    gates = set(counted_gates(net, lot))
    own = counted_cost(net, world, lot)
    rooms = [counted_cost(net, world, inside) - own for inside in lots_from(holders, lot)
             if gates - set(counted_gates(net, inside))]
    return min(rooms, default=None)


def lesser(one, other):
    return min([found for found in (one, other) if found is not None], default=None)


class HeldRooms(unittest.TestCase):
    def cases(self):
        for net, world in small_cases(1290, 24, most=4, ties=6, top=4):
            for holders, lot in some(1291, pairs_inside(net.size), 14):
                if holders:
                    yield net, world, holders, lot

    def test_against_a_counting(self):
        none = 0
        for net, world, holders, lot in self.cases():
            if not counted_holds(net, world, holders, lot):
                self.check_not_held(net, world, holders, lot)
                continue
            told = counted_held_room(net, world, holders, lot)
            none += told is None
            self.assertEqual(held_room(net, list(world), holders[::-1], list(lot)), told)
            for change in (0, 1, 2, 3, 100):
                held = always_holds(net, Moves(world, change), holders, lot)
                self.assertIs(held, told is None or change <= told)
        self.assertGreater(none, 10)

    def check_not_held(self, net, world, holders, lot):
        own = counted_cost(net, world, lot)
        costs = {inside: counted_cost(net, world, inside) for inside in lots_from(holders, lot)}
        cheapest = [inside for inside in costs if costs[inside] == min(costs.values())]
        self.assertLess(min(costs.values()), own)
        check_error(self, lambda: held_room(net, world, holders, lot), e.NotHeld, cheapest[-1])

    def test_against_all_moved_worlds(self):
        for net, world in small_cases(1292, 10, most=3, ties=4, top=2):
            for holders, lot in pairs_inside(net.size):
                if counted_holds(net, world, holders, lot):
                    found = held_room(net, world, holders, lot)
                    for change in range(4):
                        held = all(counted_holds(net, moved, holders, lot) for moved in moved_worlds(world, change))
                        self.assertIs(held, found is None or change <= found)

    def test_serving_sides_and_regrets(self):
        for net, world in small_cases(1293, 20, most=4, ties=6, top=4):
            for p in range(net.size):
                for q in range(net.size):
                    for side in some(1294, counted_least(net, world, (p,), (q,)) if p != q else [], 2):
                        there = held_room(~net, world, (q,), rest_of(net.size, side))
                        least = lesser(held_room(net, world, (p,), side), there)
                        for change in (0, 1, 2, 5, 60):
                            beyond = 0 if least is None else max(0, change - least)
                            moves = Moves(world, change)
                            self.assertIs(serves(net, moves, (p,), (q,), side), beyond == 0)
                            self.assertEqual(regret(net, moves, (p,), (q,), side), beyond)

    def test_errors_and_edges(self):
        net, world = Oneway(3, [(0, 1), (1, 2), (2, 2)]), (1, 2, 9)
        check_error(self, lambda: held_room(net, (1, 2), None, None), e.BadWorld, -1)
        check_error(self, lambda: held_room(net, world, [3], [3, 0, 0]), e.BadLot, 0)
        check_error(self, lambda: held_room(net, world, [], [0, 0]), e.BadLot, 1)
        check_error(self, lambda: held_room(net, world, [], []), e.EmptyLot, "holders")
        check_error(self, lambda: held_room(net, world, [2, 1], [1, 0]), e.NotInside, 2)
        check_error(self, lambda: held_room(net, world, [0], [0, 1]), e.NotHeld, (0,))
        check_error(self, lambda: held_room(Twoway(9, [(0, 1)]), (1,), [0, 2], [0]), e.NotInside, 2)
        check_error(self, lambda: held_room(Twoway(9, [(0, 1), (1, 2)]), (1, 2), [0], [0, 1]), e.TooMany, 9)
        self.assertIsNone(held_room(net, world, [1], [0, 1, 2]))
        self.assertIsNone(held_room(net, world, [1], [1]))
        self.assertEqual(held_room(Twoway(3, [(0, 1), (1, 2)]), (MOST, 1), [0], [0, 1]), MOST - 1)


class Rooms(unittest.TestCase):
    def counted(self, net, wood, edges):
        """The least flow with the two ends of a tie merged, less the flow, by the words of [130]."""
        found = []
        for a, b in net.ties:
            way = counted_way(net.size, edges, a, b)
            if len(way) > 1:
                small = merged(net, a, b)
                for at in way:
                    p, q = [behind(net.size, (a, b), place) for place in edges[at]]
                    found.append(Wood(small, wood.world).flow(p, q) - wood.flows[edges[at]])
        return min(found, default=None)

    def test_against_a_counting(self):
        seen = {}
        for net, world in CASES:
            wood = Wood(net, world)
            for edges in some(1302, wood.trees(), 3):
                tree = Tree(net.size, edges)
                told = self.counted(net, wood, edges)
                seen[told] = True
                self.assertEqual(room(net, list(world), tree), told)
                neighbours = all(len(counted_way(net.size, edges, a, b)) <= 1 for a, b in net.ties)
                self.assertIs(told is None, neighbours)
                for change in (0, 1, 2, 3, told or 0, (told or 0) + 1, 200):
                    borne = told is None or told >= change
                    self.assertIs(bears_change(net, world, tree, change), borne)
                    self.assertIs(is_one_tree(net, Moves(world, change), tree), borne)
                    higher = [raised(net, world, tie, change) for tie in range(net.many)]
                    still = all(Wood(net, other).first_wrong(edges) is None for other in higher)
                    self.assertIs(still, borne)
                self.check_break(net, wood, tree, told)
        self.assertTrue({None, 0, 1, 2} <= set(seen))

    def check_break(self, net, wood, tree, told):
        found = rise_that_breaks(net, wood.world, tree)
        if told is None:
            self.assertIsNone(found)
            return
        self.assertEqual((type(found), len(found)), (tuple, 4))
        tie, by, at, side = found
        p, q = tree.edges[at]
        self.assertEqual(by, told + 1)
        self.assertTrue(p in side and q not in side)
        higher = raised(net, wood.world, tie, by)
        self.assertLess(counted_cost(net, higher, side), counted_cost(net, higher, tree.side(at)))

    def test_against_all_moved_worlds(self):
        for net, world in SMALL:
            for change in (0, 1, 2):
                told = one_trees(net, moved_worlds(world, change))
                found = [tree.edges for tree in cut_trees(net, world) if bears_change(net, world, tree, change)]
                self.assertEqual(found, told)

    def test_held_rooms_of_all_edges(self):
        for net, world in CASES:
            for edges in some(1303, Wood(net, world).trees(), 2):
                tree = Tree(net.size, edges)
                found = None
                for at, ends in enumerate(edges):
                    for end in ends:
                        side = tree.side(at)
                        side = side if end in side else rest_of(net.size, side)
                        found = lesser(found, counted_held_room(net, world, (end,), side))
                self.assertEqual(room(net, world, tree), found)

    def test_rooms_of_at_least_1(self):
        for net, world in CASES:
            trees = Wood(net, world).trees()
            dists = {edges: [len(counted_way(net.size, edges, a, b)) for a, b in net.ties] for edges in trees}
            least = [min(row[tie] for row in dists.values()) for tie in range(net.many)]
            most = [max(row[tie] for row in dists.values()) for tie in range(net.many)]
            for edges in some(1304, trees, 5):
                found = room(net, world, Tree(net.size, edges))
                self.assertIs(found is None or found >= 1, dists[edges] == least)
                if found is None or found >= 1:
                    self.assertTrue(all(u == 0 or dists[edges][tie] == most[tie] for tie, u in enumerate(world)))

    def test_losses(self):
        seen = 0
        for net, world in CASES:
            tree = cut_tree(net, world)
            found = room(net, world, tree)
            for number in range(net.many + 2):
                if found is None or found >= sum(sorted(world)[::-1][:number]):
                    self.assertTrue(is_one_tree(net, Losses(world, number), tree))
                    seen += number > 0
        self.assertGreater(seen, 10)

    def test_best_rooms(self):
        for net, world in CASES:
            rooms = [room(net, world, tree) for tree in some(1305, cut_trees(net, world), 25)]
            best = best_room(net, list(world))
            if best is None:
                self.assertTrue(all(found is None or found >= 0 for found in rooms))
            else:
                self.assertTrue(all(found is not None and found <= best for found in rooms))
            for change in (1, 2, 3, 50):
                self.assertIs(one_tree(net, Moves(world, change)) is not None, best is None or best >= change)

    def test_best_rooms_are_reached(self):
        for net, world in SMALL:
            rooms = [room(net, world, tree) for tree in cut_trees(net, world)]
            self.assertEqual(best_room(net, world), None if None in rooms else max(rooms))
            middle = Moves(world, 1).middle()
            self.assertEqual({room(net, world, tree) for tree in cut_trees(net, middle)}, {best_room(net, world)})

    def test_rings(self):
        random = Random(1306)
        for size in (3, 5, 8):
            net = Twoway(size, [(p, (p + 1) % size) for p in range(size)])
            world = [random.randint(3, MOST) for _ in range(size)]
            tie = random.randrange(size)
            world[tie] = 2
            found = room(net, world, ring_tree(net, tie))
            self.assertEqual(found, min(u for at, u in enumerate(world) if at != tie) - 2)
            self.assertEqual(best_room(net, world), found)

    def test_few_places_and_many(self):
        for net, tree in ((Twoway(1, [(0, 0)]), Tree(1, [])), (Twoway(2, [(0, 1)]), Tree(2, [(0, 1)]))):
            self.assertEqual((room(net, (3,), tree), best_room(net, (3,))), (None, None))
            self.assertEqual((rise_that_breaks(net, (3,), tree), bears_change(net, (3,), tree, MOST)), (None, True))
        self.assertIsNone(best_room(Twoway(8, []), ()))
        random = Random(1307)
        for _ in range(4):
            net = Twoway(8, [(random.randrange(8), random.randrange(8)) for _ in range(20)])
            world = [random.choice((0, 3, MOST)) for _ in range(20)]
            tree = cut_tree(net, world)
            self.check_break(net, Wood(net, world), tree, room(net, world, tree))

    def test_errors(self):
        net, world = Twoway(4, [(0, 1), (1, 2), (2, 3), (0, 3)]), (3, 2, 4, 1)
        for edges in counted_trees(4):
            wrong = Wood(net, world).first_wrong(edges)
            if wrong is not None:
                tree = Tree(4, edges)
                for call in (lambda: room(net, world, tree), lambda: rise_that_breaks(net, world, tree),
                             lambda: bears_change(net, world, tree, 0)):
                    check_error(self, call, e.NotACutTree, wrong)
        for change in (-1, True, None, "1", 1.0, [0]):
            check_error(self, lambda: bears_change(net, world, Tree.star(4, 0), change), e.BadNumber, "change")
        big = Twoway(9, [(0, 1), (1, 2)])
        check_error(self, lambda: bears_change(big, (1, 1), Tree.star(9, 5), None), e.BadNumber, "change")
        check_error(self, lambda: bears_change(big, (1, 1), Tree.star(9, 5), 0), e.TooMany, 9)
        check_error(self, lambda: best_room(big, (1, 1)), e.TooMany, 9)


class Parts(unittest.TestCase):
    def test_rooms_by_told_families(self):
        random = Random(1308)
        for net, world in CASES[:10]:
            tree = Tree(net.size, random_edges(random, net.size))
            self.assertIs(is_one_tree(net, Moves(world, 0), tree), is_one_tree(net, Told(world), tree))
            self.assertTrue(all(parts_pair(tree.side(at), p, q) for at, (p, q) in enumerate(tree)))


if __name__ == "__main__":
    unittest.main()
