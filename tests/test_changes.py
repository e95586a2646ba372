"""[46], [47], [54]: losses and moves; both against a counting of all worlds in test_families, too."""

import unittest
from random import Random

from leastgates import errors as e
from leastgates.changes import Losses, Moves
from leastgates.families import Told
from leastgates.stretches import Stretches
from tests.support import check_error, subsets
from tests.worlds import lost_worlds, moved_worlds, random_world

MOST = 10 ** 30


class OfLosses(unittest.TestCase):
    def test_attributes(self):
        world = [4, 2, 3]
        losses = Losses(world, 1)
        world[0] = 0
        self.assertEqual((losses.world, losses.number, losses.middle()), ((4, 2, 3), 1, (4, 2, 3)))
        self.assertIs(type(losses.world), tuple)

    def test_no_loss(self):
        losses = Losses([4, 0, 3], 0)
        self.assertEqual((list(losses.worlds()), losses.seen(), losses.dead()), ([(4, 0, 3)], (0, 1, 2), (1,)))
        self.assertEqual(losses.gap([0], [2]), 1)

    def test_as_many_losses_as_ties_and_more(self):
        for number in (3, 4, 100, MOST):
            losses = Losses([4, 2, 0], number)
            self.assertEqual(list(losses.worlds()), [(0, 0, 0), (0, 2, 0), (4, 0, 0), (4, 2, 0)])
            self.assertEqual((losses.gap([0], [1]), losses.gap_world([0], [1])), (4, (4, 0, 0)))
            self.assertEqual((losses.seen(), losses.dead()), ((2,), (2,)))
            self.assertIs(losses.has([0, 0, 0]), True)
            self.assertIs(losses.has([4, 1, 0]), False)

    def test_the_greatest_capacities_are_lost(self):
        losses = Losses([5, 1, 4, 3], 2)
        self.assertEqual((losses.gap([0], [1, 2, 3]), losses.gap_world([0], [3, 2, 1])), (4, (5, 1, 0, 0)))
        self.assertEqual(losses.gap([], [0, 1, 2, 3]), -4)
        self.assertEqual(losses.gap([0, 1, 2, 3], []), 13)

    def test_dead_ties_are_no_losses(self):
        losses = Losses([0, 2, 0, 3], 1)
        self.assertEqual(list(losses.worlds()), [(0, 0, 0, 3), (0, 2, 0, 0), (0, 2, 0, 3)])
        self.assertEqual(losses.dead(), (0, 2))

    def test_worlds_against_a_counting(self):
        random = Random(230)
        for _ in range(60):
            world = random_world(random, random.randint(0, 6))
            number = random.randint(0, 7)
            self.assertEqual(list(Losses(world, number).worlds()), sorted(set(lost_worlds(world, number))))

    def test_too_many_worlds(self):
        for losses in (Losses([1] * 40, 40), Losses([MOST] * 12, 12), Losses([1] * 40, 3), Losses([1] * 40, MOST)):
            worlds = losses.worlds()
            check_error(self, lambda: next(worlds), e.TooMany, 3001)
        self.assertEqual(len(list(Losses([1] * 40, 2).worlds())), 821)
        self.assertEqual(len(list(Losses([0] * 29 + [1] * 11, 40).worlds())), 2048)


class OfMoves(unittest.TestCase):
    def test_attributes(self):
        world = [4, 2, 3]
        moves = Moves(world, 2)
        world[0] = 0
        self.assertEqual((moves.world, moves.change), ((4, 2, 3), 2))
        self.assertIs(type(moves.world), tuple)

    def test_no_change(self):
        moves = Moves([4, 0, 3], 0)
        self.assertEqual((list(moves.worlds()), moves.middle()), ([(4, 0, 3)], (4, 0, 3)))
        self.assertEqual((moves.seen(), moves.dead(), moves.gap([0], [2])), ((0, 1, 2), (1,), 1))
        self.assertEqual((moves.gap([], [0]), moves.gap([], [1])), (-4, 0))

    def test_a_change_smaller_than_a_capacity(self):
        moves = Moves([5, 1, 0], 2)
        self.assertEqual((moves.gap([], [0]), moves.gap_world([], [0])), (-3, (3, 1, 0)))
        self.assertEqual((moves.gap([], [0, 1]), moves.gap([], [1, 2]), moves.gap([], [])), (-4, 0, 0))
        self.assertEqual((moves.gap([2], [0]), moves.gap([0, 1], [2])), (-3, 8))
        self.assertEqual((moves.seen(), moves.dead()), ((), ()))

    def test_the_middle(self):
        self.assertEqual(Moves([5, 0, 1], 1).middle(), (30, 1, 6))
        self.assertEqual(Moves([5, 0, 1], 9).middle(), (30, 1, 6))
        self.assertEqual(Moves([0, 0], 1).middle(), (1, 1))
        self.assertEqual(Moves([1], MOST).middle(), (3,))

    def test_worlds_against_a_counting(self):
        random = Random(231)
        for _ in range(60):
            world = random_world(random, random.randint(0, 4))
            change = random.randint(0, 4)
            self.assertEqual(list(Moves(world, change).worlds()), sorted(moved_worlds(world, change)))

    def test_too_many_worlds(self):
        for moves in (Moves([MOST] * 40, MOST), Moves([0], MOST), Moves([3] * 40, 2), Moves([0] * 40, 3),
                      Moves([5], 3000)):
            worlds = moves.worlds()
            check_error(self, lambda: next(worlds), e.TooMany, 3001)
        self.assertEqual(len(list(Moves([0], 2999).worlds())), 3000)
        self.assertEqual(len(list(Moves([3] * 40, 1).worlds())), 81)
        self.assertEqual(len(list(Moves([MOST], 1).worlds())), 3)

    def test_the_examples(self):
        losses, moves = Losses((4, 2, 3), 1), Moves((4, 2, 3), 2)
        found = (losses.gap((0,), (1, 2)), moves.gap((0,), (1, 2)), moves.gap((), (1,)), moves.middle())
        self.assertEqual(found, (2, 1, 0, (28, 14, 21)))
        self.assertEqual(list(Moves((1, 0), 1).worlds()), [(0, 0), (1, 0), (1, 1), (2, 0)])


class Narrower(unittest.TestCase):
    def test_what_narrows_has_no_greater_gap(self):
        world = (3, 0, 2)
        chains = ((Told(world), Losses(world, 1), Losses(world, 3), Stretches([(0, 3), (0, 0), (0, 2)])),
                  (Told(world), Moves(world, 1), Moves(world, 4)))
        for chain in chains:
            for inner, outer in zip(chain, chain[1:]):
                for plus in subsets(range(3)):
                    minus = [tie for tie in range(3) if tie not in plus]
                    self.assertLessEqual(inner.gap(plus, minus), outer.gap(plus, minus))


if __name__ == "__main__":
    unittest.main()
