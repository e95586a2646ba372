"""[2], [71], [136] to [140], [142] to [144]: desks, deed by deed, against the stages before and desks made anew."""

import unittest
from random import Random

from leastgates import errors as e
from leastgates.cuttrees import is_cut_tree
from leastgates.desks import Desk
from leastgates.groves import Grove
from leastgates.nets import Oneway, Twoway
from leastgates.onetree import is_one_tree
from leastgates.papers import is_tree_paper
from leastgates.serving import is_serving, served, serves, settled_pairs
from leastgates.splits import sides_number
from leastgates.steps import full_grove
from leastgates.stretches import Stretches
from leastgates.texts import net_from, net_text
from tests.deskwork import all_answers, check_answers, do, now_of, random_desk, random_row
from tests.support import check_error, counted_cost, counted_flow, counted_least, rest_of, sides_of
from tests.woods import MOST

RING = Twoway(3, [(0, 1), (1, 2), (0, 2)])
BOUNDS = Stretches([(5, 5), (5, 5), (0, 6)])


class Made(unittest.TestCase):
    def test_as_made(self):
        random = Random(1360)
        for _ in range(25):
            desk, pairs, lost = random_desk(random, least=1)
            check_answers(self, desk, pairs, lost, 0)

    def test_what_is_kept(self):
        lost = [2, 0]
        desk = Desk(RING, BOUNDS, lost=lost)
        lost.append(1)
        self.assertEqual((desk.lost, desk.now.pairs, desk.stretches.pairs),
                         ((0, 2), ((0, 0), (5, 5), (0, 0)), ((5, 5), (5, 5), (0, 6))))
        self.assertTrue(desk.net == RING)
        self.assertEqual(Desk(RING, BOUNDS).lost, ())
        desk.open_pairs().append(1)
        self.assertEqual(desk.open_pairs(), [])

    def test_the_class(self):
        for name in ("ask", "narrow", "reset", "lose", "find", "back", "is_settled", "side_for", "flow_ends", "grove",
                     "many_sides", "tree", "open_pairs", "open_ties", "regret_of", "finish", "stretches", "now",
                     "__len__", "__iter__", "__contains__"):
            self.assertIn(name, vars(Desk))
        for name in ("stretches", "now"):
            self.assertIsInstance(vars(Desk)[name], property)

    def test_stretches_are_fixed(self):
        desk = Desk(RING, BOUNDS)
        with self.assertRaises(e.FixedWanted):
            desk.stretches = Stretches([(0, 0)] * 3)
        with self.assertRaises(e.FixedWanted):
            desk.stretches = None
        check_answers(self, desk, list(BOUNDS.pairs), (), 0)

    def test_ties_in_desks(self):
        desk = Desk(RING, BOUNDS, lost=[1])
        for value in (True, False, None, "0", -1, 3, 1, [0], (0,), 0.0, 10 ** 30, {}):
            self.assertIs(value in desk, False)
        self.assertTrue(0 in desk and 2 in desk)

    def test_few_places_and_many(self):
        desk = Desk(Twoway(1, [(0, 0)]), Stretches([(0, 3)]))
        self.assertEqual((desk.open_pairs(), desk.many_sides(), len(desk.tree()), desk.open_ties()), ([], 0, 0, (0,)))
        self.assertEqual((desk.lose(0), desk.find(0), desk.finish([2]), len(desk)), ((), (), (), 2))
        pair = Desk(Twoway(2, [(0, 1)]), Stretches([(0, MOST)]))
        self.assertEqual((pair.flow_ends(1, 0), pair.is_settled(1, 0), pair.side_for(1, 0)), ((0, MOST), True, (1,)))
        seven = Desk(Twoway(7, [(p, q) for p in range(7) for q in range(p)]), Stretches([(0, MOST)] * 21))
        self.assertEqual((len(seven.open_pairs()), seven.many_sides(), seven.tree()), (21, 0, None))
        empty = Desk(Twoway(7, []), Stretches([]))
        self.assertEqual((empty.open_pairs(), empty.many_sides(), empty.finish([])), ([], 6, ()))
        check_error(self, lambda: Desk(Twoway(8, []), Stretches([])), e.TooMany, 8)

    def test_errors_of_making(self):
        check_error(self, lambda: Desk(Oneway(8, []), BOUNDS, lost=None), e.NotTwoway)
        check_error(self, lambda: Desk(Twoway(8, []), BOUNDS, lost=None), e.OtherSize, 3)
        big = Twoway(8, [(0, 1)] * 3)
        for lost, at in ((None, -1), ([3], 0), ([0, 0], 1), ((2, True), 1), ("0", -1), ([-1], 0)):
            check_error(self, lambda: Desk(big, BOUNDS, lost=lost), e.BadTies, at)
        check_error(self, lambda: Desk(big, BOUNDS, lost=[2, 1]), e.TooMany, 8)


class Deeds(unittest.TestCase):
    def test_deed_by_deed_and_back(self):
        random = Random(1370)
        words = {}
        for _ in range(22):
            desk, pairs, lost = random_desk(random)
            states = [(pairs, lost)]
            for _ in range(random.randint(3, 12)):
                before = settled_pairs(desk.net, now_of(*states[-1]))
                if len(states) > 1 and random.random() < 0.3:
                    news = desk.back()
                    states.pop()
                else:
                    row, *state = random_row(random, *states[-1])
                    news = do(desk, row)
                    states.append(tuple(state))
                    words[row[0]] = True
                behind = settled_pairs(desk.net, now_of(*states[-1]))
                self.assertEqual((type(news), news), (tuple, tuple(sorted(set(before) ^ set(behind)))))
                check_answers(self, desk, *states[-1], len(states) - 1)
            while len(states) > 1:
                self.assertEqual(len(desk), len(states) - 1)
                desk.back()
                states.pop()
            check_answers(self, desk, pairs, lost, 0)
            check_error(self, desk.back, e.NothingBack)
        self.assertEqual(len(words), 5)

    def test_deeds_that_change_nothing(self):
        desk = Desk(RING, BOUNDS)
        self.assertEqual((desk.ask(0, 5), desk.narrow(2, 0, 6), desk.reset(1, 5, 5)), ((), (), ()))
        check_answers(self, desk, list(BOUNDS.pairs), (), 3)
        self.assertEqual((desk.back(), len(desk)), ((), 2))

    def test_lost_ties_keep_their_pairs(self):
        desk = Desk(RING, BOUNDS)
        self.assertEqual(desk.lose(2), ((0, 1), (1, 2)))
        self.assertEqual((desk.stretches.pairs, desk.now.pairs), (BOUNDS.pairs, ((5, 5), (5, 5), (0, 0))))
        self.assertEqual((desk.lost, desk.tree().edges), ((2,), ((0, 1), (1, 2))))
        self.assertEqual(desk.find(2), ((0, 1), (1, 2)))
        check_answers(self, desk, list(BOUNDS.pairs), (), 2)
        # An earlier stretches object is not changed by later deeds.
        kept = desk.stretches
        desk.reset(0, 0, MOST)
        self.assertEqual((kept.pairs, desk.stretches.pairs[0]), (BOUNDS.pairs, (0, MOST)))

    def test_two_hundred_deeds(self):
        random = Random(1371)
        desk, pairs, lost = random_desk(random, least=4, most=4)
        state = pairs, lost
        for _ in range(200):
            row, *state = random_row(random, *state)
            do(desk, row)
        check_answers(self, desk, *state, 200)
        for _ in range(200):
            desk.back()
        check_answers(self, desk, pairs, lost, 0)

    def test_all_ties_lost(self):
        desk = Desk(RING, BOUNDS, lost=[0, 1])
        desk.lose(2)
        check_answers(self, desk, list(BOUNDS.pairs), (0, 1, 2), 1)
        self.assertEqual((desk.many_sides(), desk.flow_ends(0, 1), desk.open_ties()), (2, (0, 0), ()))
        for tie in range(3):
            desk.find(tie)
        check_answers(self, desk, list(BOUNDS.pairs), (), 4)

    def refused(self, desk, call, *error):
        before, deeds = all_answers(desk), len(desk)
        check_error(self, call, *error)
        self.assertEqual((all_answers(desk), len(desk)), (before, deeds))

    def test_errors_of_deeds(self):
        desk = Desk(RING, BOUNDS, lost=[1])
        desk.narrow(2, 1, 5)
        for tie in (-1, 3, True, None, "0", [0]):
            for call in (lambda: desk.ask(tie, None), lambda: desk.narrow(tie, None, None),
                         lambda: desk.reset(tie, None, None), lambda: desk.lose(tie), lambda: desk.find(tie)):
                self.refused(desk, call, e.BadTie, "tie")
        for amount in (0, 6, -1, True, None, "3", [3], 3.0):
            self.refused(desk, lambda: desk.ask(2, amount), e.BadNumber, "amount")
            self.refused(desk, lambda: desk.ask(1, amount), e.BadNumber, "amount")
        for low, high in ((0, 3), (1, 6), (3, 2), (True, 3), (1, None), ("1", 2), (-1, 2), (2, [3]), (None, True)):
            self.refused(desk, lambda: desk.narrow(2, low, high), e.BadStretch, 2)
            self.refused(desk, lambda: desk.narrow(1, low, high), e.BadStretch, 1)
        for low, high in ((-1, 3), (3, 2), (True, 3), (1, None), ("1", 2), (2, [3]), (None, True), (1, 2.0)):
            self.refused(desk, lambda: desk.reset(2, low, high), e.BadStretch, 2)
            self.refused(desk, lambda: desk.reset(1, low, high), e.BadStretch, 1)
        for call in (lambda: desk.ask(1, 5), lambda: desk.narrow(1, 5, 5), lambda: desk.reset(1, 0, 9),
                     lambda: desk.lose(1)):
            self.refused(desk, call, e.IsLost, 1)
        for tie in (0, 2):
            self.refused(desk, lambda: desk.find(tie), e.NotLost, tie)
        desk.back()
        self.refused(desk, desk.back, e.NothingBack)

    def test_errors_of_answers(self):
        desk = Desk(RING, BOUNDS)
        for place in (-1, 3, True, None, "0", [0]):
            for method in (desk.is_settled, desk.side_for, desk.flow_ends):
                check_error(self, lambda: method(place, None), e.BadPlace, "one")
                check_error(self, lambda: method(0, place), e.BadPlace, "other")
            check_error(self, lambda: desk.regret_of([0], place, None), e.BadPlace, "one")
            check_error(self, lambda: desk.regret_of([0], 1, place), e.BadPlace, "other")
        for method in (desk.is_settled, desk.side_for, desk.flow_ends):
            check_error(self, lambda: method(2, 2), e.SamePlace, 2)
        for lot, at in ((None, -1), ([3], 0), ([0, 0], 1), ([1, True], 1), ("0", -1)):
            check_error(self, lambda: desk.regret_of(lot, None, None), e.BadLot, at)
        check_error(self, lambda: desk.regret_of([], 1, 2), e.NotInside, 1)
        check_error(self, lambda: desk.regret_of([0, 2], 1, 2), e.NotInside, 1)
        check_error(self, lambda: desk.regret_of([2, 0], 0, 2), e.Meeting, 2)
        check_error(self, lambda: desk.regret_of([0, 1, 2], 0, 1), e.Meeting, 1)
        check_error(self, lambda: desk.regret_of([0], 0, 0), e.Meeting, 0)
        check_error(self, lambda: desk.regret_of([0], 1, 1), e.NotInside, 1)
        self.assertEqual(desk.regret_of((0,), 0, 1), 1)


class OneWay(unittest.TestCase):
    def test_ask_and_narrow(self):
        random = Random(1380)
        for _ in range(30):
            desk, pairs, lost = random_desk(random, least=3)
            net, before = desk.net, desk.now
            grove = desk.grove()
            served_before = {side: served(net, before, side) for side in sides_of(net.size)}
            row, state, lost = random_row(random, pairs, lost)
            if row[0] not in ("ask", "narrow"):
                continue
            old = [(p, q) for p in range(net.size) for q in range(net.size) if p != q]
            ends = [desk.flow_ends(p, q) for p, q in old]
            many, settled = desk.many_sides(), settled_pairs(net, before)
            regrets = [desk.regret_of(side, side[0], rest_of(net.size, side)[0]) for side in sides_of(net.size)]
            news = do(desk, row)
            self.assertTrue(all(pair not in settled for pair in news))
            for side, (here, there) in served_before.items():
                self.assertTrue(all(serves(net, desk.now, [p], [q], side) for p in here for q in there))
            self.assertGreaterEqual(desk.many_sides(), many)
            for (p, q), (low, high) in zip(old, ends):
                self.assertTrue(low <= desk.flow_ends(p, q)[0] and desk.flow_ends(p, q)[1] <= high)
            fewer = [desk.regret_of(side, side[0], rest_of(net.size, side)[0]) for side in sides_of(net.size)]
            self.assertTrue(all(now <= then for now, then in zip(fewer, regrets)))
            anew = Grove(net, desk.now, grove.lots, grove.edges, grove.posts)
            sides = full_grove(net, desk.now, start=anew).side_list()
            self.assertTrue(all(side in sides or rest_of(net.size, side) in sides for side in anew.side_list()))

    def test_reset_lost_and_found(self):
        random = Random(1390)
        seen = 0
        for _ in range(40):
            desk, pairs, lost = random_desk(random, least=3)
            net = desk.net
            serving = {side: served(net, desk.now, side) for side in sides_of(net.size)
                       if is_serving(net, desk.now, side)}
            for tie in range(net.many):
                deeds = [("lose", tie)] if tie in desk else [("find", tie)]
                if tie in desk:
                    low, high = pairs[tie]
                    deeds += [("reset", tie, 0, high), ("reset", tie, low, high + 3), ("reset", tie, low + 1, high + 9)]
                for row in deeds:
                    do(desk, row)
                    for side, (here, there) in serving.items():
                        gated = tie in net.gates(side)
                        lower = row[0] == "lose" or row[0] == "reset" and row[3] <= pairs[tie][1]
                        higher = row[0] == "find" or row[0] == "reset" and row[2] >= pairs[tie][0]
                        if gated and lower or not gated and higher:
                            self.assertTrue(all(serves(net, desk.now, [p], [q], side) for p in here for q in there))
                            seen += 1
                    desk.back()
        self.assertGreater(seen, 200)

    def test_dead_ties_have_no_news(self):
        desk = Desk(RING, Stretches([(0, 0), (1, 2), (0, 3)]))
        self.assertEqual((desk.lose(0), desk.find(0), len(desk)), ((), (), 2))

    def test_one_tree_kept(self):
        random = Random(1400)
        seen = {"lose": 0, "reset": 0}
        for _ in range(60):
            desk, pairs, lost = random_desk(random, least=3)
            tree = desk.tree()
            if tree is None:
                continue
            for tie in [tie for tie in range(desk.net.many) if tie in desk]:
                way = tree.way(*desk.net.ties[tie])
                low, high = pairs[tie]
                for row in (("lose", tie), ("reset", tie, low + 1, high + 2), ("reset", tie, low, high + 1)):
                    do(desk, row)
                    kept = [at for at in range(len(tree)) if (at in way) == (row[0] == "lose")]
                    for at in kept:
                        p, q = tree.edges[at]
                        self.assertTrue(serves(desk.net, desk.now, [p], [q], tree.side(at)))
                        seen[row[0]] += 1
                    if len(kept) == len(tree) or row[0] == "reset" and len(way) < 2:
                        self.assertTrue(is_one_tree(desk.net, desk.now, tree))
                    desk.back()
        self.assertGreater(min(seen.values()), 50)


class Finishing(unittest.TestCase):
    def test_what_is_asked(self):
        random = Random(1420)
        asked_some = 0
        for _ in range(45):
            desk, pairs, lost = random_desk(random, least=3, ties=9)
            world = [random.randint(low, high) for low, high in pairs]
            passed = [99 if tie in lost else u for tie, u in enumerate(world)]
            before, net = desk.now, desk.net
            told = []
            copy = Desk(net, desk.stretches, lost=lost)
            while copy.tree() is None:
                told.append(copy.open_ties()[0])
                copy.ask(told[-1], world[told[-1]])
            found = desk.finish(passed)
            self.assertEqual((type(found), found, len(desk)), (tuple, tuple(told), len(told)))
            state = [(world[tie],) * 2 if tie in told else pair for tie, pair in enumerate(pairs)]
            check_answers(self, desk, state, lost, len(told))
            asked_some += bool(told)
            now = [0 if tie in lost else u for tie, u in enumerate(world)]
            self.assertTrue(is_tree_paper(net, before, now, desk.tree(), found))
            self.assertEqual(desk.finish(passed), ())
            for _ in told:
                desk.back()
            check_answers(self, desk, pairs, lost, 0)
        self.assertGreater(asked_some, 10)

    def test_errors(self):
        desk = Desk(RING, BOUNDS, lost=[1])
        for world, at in ((None, -1), ([5, 5], -1), ([5, -1, 7], 1), ([5, True, 9], 1)):
            check_error(self, lambda: desk.finish(world), e.BadWorld, at)
        for world, at in (([4, 5, 7], 0), ([5, 0, 7], 2), ([6, 5, 0], 0)):
            check_error(self, lambda: desk.finish(world), e.NotInFamily, at)
        self.assertEqual((desk.finish([5, 77, 6]), len(desk)), ((), 0))
        check_error(self, lambda: Desk(RING, BOUNDS).finish([5, 77, 6]), e.NotInFamily, 1)


class HiddenWorlds(unittest.TestCase):
    def test_answers_for_a_hidden_world(self):
        random = Random(1430)
        for _ in range(20):
            desk, pairs, lost = random_desk(random, least=3, most=4)
            hidden = [random.randint(low, high) for low, high in pairs]
            for _ in range(8):
                tie = random.randrange(desk.net.many)
                low, high = desk.stretches.pairs[tie]
                if tie not in desk:
                    desk.find(tie)
                elif random.random() < 0.3:
                    desk.lose(tie)
                elif random.random() < 0.4:
                    desk.ask(tie, hidden[tie])
                elif random.random() < 0.5:
                    desk.narrow(tie, random.randint(low, hidden[tie]), random.randint(hidden[tie], high))
                else:
                    desk.reset(tie, random.randint(0, hidden[tie]), hidden[tie] + random.randint(0, 3))
                self.check(desk, tuple(0 if tie in desk.lost else u for tie, u in enumerate(hidden)))

    def check(self, desk, world):
        net = desk.net
        self.assertTrue(world in desk.now)
        tree = desk.tree()
        self.assertTrue(tree is None or is_cut_tree(net, world, tree))
        for p in range(net.size):
            for q in range(net.size):
                if p != q:
                    flow = counted_flow(net, world, [p], [q])
                    side = desk.side_for(p, q)
                    self.assertTrue(side is None or side in counted_least(net, world, [p], [q]))
                    low, high = desk.flow_ends(p, q)
                    self.assertTrue(low <= flow <= high)
                    for lot in sides_of(net.size):
                        if p in lot and q not in lot:
                            self.assertLessEqual(counted_cost(net, world, lot) - flow, desk.regret_of(lot, p, q))


class Remade(unittest.TestCase):
    def test_a_desk_made_anew(self):
        random = Random(1440)
        for _ in range(12):
            desk, pairs, lost = random_desk(random)
            state = pairs, lost
            for _ in range(6):
                row, *state = random_row(random, *state)
                do(desk, row)
                self.check(desk)
            desk.back()
            self.check(desk)
            desk.finish([low for low, _ in desk.stretches.pairs])
            self.check(desk)

    def check(self, desk):
        anew = Desk(net_from(net_text(desk.net)), Stretches(desk.stretches.pairs), lost=list(desk.lost))
        self.assertEqual(all_answers(anew), all_answers(desk))
        self.assertEqual(len(anew), 0)

    def test_equal_calls(self):
        random = Random(1441)
        for _ in range(6):
            desk, pairs, lost = random_desk(random)
            self.assertEqual(all_answers(desk), all_answers(desk))
            self.assertEqual(desk.many_sides(), sides_number(desk.net, desk.now))


if __name__ == "__main__":
    unittest.main()
