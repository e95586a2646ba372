"""[2], [137], [141], [144]: trials, behind which a desk is as it was."""

import unittest
from random import Random

from leastgates import errors as e
from leastgates.desks import Desk
from leastgates.nets import Twoway
from leastgates.stretches import Stretches
from leastgates.trials import Trial, tried, tried_loss
from tests.deskwork import all_answers, check_answers, do, random_desk, random_row
from tests.support import check_error

RING = Twoway(3, [(0, 1), (1, 2), (0, 2)])
BOUNDS = Stretches([(5, 5), (5, 5), (0, 6)])


class Trials(unittest.TestCase):
    def test_the_class(self):
        self.assertIn("__enter__", vars(Trial))
        self.assertIn("__exit__", vars(Trial))
        self.assertIsInstance(vars(Trial)["ended"], property)
        desk = Desk(RING, BOUNDS)
        trial = Trial(desk)
        self.assertTrue(trial.desk is desk and trial.ended is False)
        with trial as entered:
            self.assertTrue(entered is trial and trial.ended is False and trial.desk is desk)
        self.assertIs(trial.ended, True)

    def test_whatever_deeds_are_done_within(self):
        random = Random(1410)
        for _ in range(20):
            desk, pairs, lost = random_desk(random)
            state = pairs, lost
            for _ in range(random.randint(0, 4)):
                row, *state = random_row(random, *state)
                do(desk, row)
            before, deeds = all_answers(desk), len(desk)
            with Trial(desk) as trial:
                self.assertEqual((all_answers(desk), len(desk)), (before, deeds))
                inner = list(state)
                for _ in range(random.randint(0, deeds)):
                    desk.back()
                    inner = [list(desk.stretches.pairs), desk.lost]
                for _ in range(random.randint(0, 5)):
                    row, *inner = random_row(random, *inner)
                    do(desk, row)
                if random.random() < 0.5:
                    desk.finish([low for low, _ in inner[0]])
                else:
                    check_answers(self, desk, list(inner[0]), inner[1], len(desk))
            self.assertEqual((all_answers(desk), len(desk), trial.ended), (before, deeds, True))
            for _ in range(deeds):
                desk.back()
            check_answers(self, desk, pairs, lost, 0)

    def test_trials_within_trials(self):
        desk = Desk(RING, BOUNDS)
        desk.ask(2, 3)
        states = [all_answers(desk)]
        with Trial(desk) as outer:
            desk.back()
            desk.lose(0)
            states.append(all_answers(desk))
            with Trial(desk) as inner:
                desk.back()
                desk.reset(1, 0, 9)
                with Trial(desk):
                    desk.find(0) if 0 not in desk else desk.lose(2)
                self.assertEqual((len(desk), inner.ended), (1, False))
            self.assertEqual((all_answers(desk), len(desk), inner.ended, outer.ended), (states[1], 1, True, False))
        self.assertEqual((all_answers(desk), len(desk), outer.ended), (states[0], 1, True))
        self.assertEqual((desk.back(), len(desk)), (((0, 1), (1, 2)), 0))

    def test_an_error_that_leaves_the_block(self):
        desk = Desk(RING, BOUNDS)
        before = all_answers(desk)
        for call, kind in ((lambda: desk.lose(7), e.BadTie), (lambda: 1 // 0, ZeroDivisionError),
                           (lambda: [][3], IndexError)):
            trial = Trial(desk)
            with self.assertRaises(kind):
                with trial:
                    desk.lose(1)
                    desk.narrow(2, 1, 2)
                    call()
            self.assertEqual((all_answers(desk), len(desk), trial.ended), (before, 0, True))

    def test_a_block_that_is_left_early(self):
        desk = Desk(RING, BOUNDS)

        def early():
            with Trial(desk):
                return desk.lose(2)

        self.assertEqual((early(), len(desk), desk.lost), (((0, 1), (1, 2)), 0, ()))

    def test_a_second_entry(self):
        desk = Desk(RING, BOUNDS)
        trial = Trial(desk)
        with trial:
            desk.lose(0)
            with self.assertRaises(e.Closed):
                with trial:
                    self.fail("entered twice")
            self.assertEqual((len(desk), desk.lost, trial.ended), (1, (0,), False))
        self.assertEqual((len(desk), desk.lost, trial.ended), (0, (), True))
        with self.assertRaises(e.Closed):
            with trial:
                self.fail("entered twice")
        self.assertEqual((len(desk), trial.ended), (0, True))
        with self.assertRaises(e.Closed):
            with Trial(desk) as other:
                desk.lose(1)
                other.__enter__()
        self.assertEqual((len(desk), desk.lost, other.ended), (0, (), True))


class Losses(unittest.TestCase):
    def test_the_news_of_a_loss(self):
        random = Random(1411)
        for _ in range(20):
            desk, pairs, lost = random_desk(random)
            before = all_answers(desk)
            for tie in range(desk.net.many):
                if tie in desk:
                    found = tried_loss(desk, tie)
                    self.assertEqual((all_answers(desk), len(desk)), (before, 0))
                    self.assertEqual(found, desk.lose(tie))
                    desk.back()
                else:
                    check_error(self, lambda: tried_loss(desk, tie), e.IsLost, tie)
            for tie in (-1, desk.net.many, True, None, "0"):
                check_error(self, lambda: tried_loss(desk, tie), e.BadTie, "tie")
            self.assertEqual((all_answers(desk), len(desk)), (before, 0))


class Tried(unittest.TestCase):
    def test_rows_of_deeds(self):
        random = Random(1412)
        for _ in range(25):
            desk, pairs, lost = random_desk(random)
            state, rows, states = (pairs, lost), [], [(pairs, lost)]
            if random.random() < 0.5:
                row, *state = random_row(random, *state)
                do(desk, row)
                states.append(tuple(state))
            before, deeds = all_answers(desk), len(desk)
            for _ in range(random.randint(0, 7)):
                if len(states) > 1 and random.random() < 0.4:
                    rows.append(random.choice((("back",), ["back"])))
                    states.pop()
                else:
                    row, *state = random_row(random, *states[-1])
                    rows.append(random.choice((tuple, list))(row))
                    states.append(tuple(state))
            passed = [list(row) for row in rows]
            found = tried(desk, random.choice((tuple, list))(rows))
            self.assertEqual((all_answers(desk), len(desk)), (before, deeds))
            self.assertEqual([list(row) for row in rows], passed)
            news, made = found
            self.assertEqual((type(found), type(news), type(made)), (tuple, list, Desk))
            check_answers(self, made, *states[-1], 0)
            self.assertTrue(made.net == desk.net)
            self.assertEqual(news, [do(desk, row) for row in rows])
            self.assertEqual(all_answers(made), all_answers(desk))
            self.check_shares_nothing(desk, made)

    def check_shares_nothing(self, desk, made):
        before = all_answers(desk), len(desk)
        for tie in range(made.net.many):
            (made.lose if tie in made else made.find)(tie)
        self.assertEqual((all_answers(desk), len(desk)), before)
        behind = all_answers(made), len(made)
        for tie in range(desk.net.many):
            (desk.lose if tie in desk else desk.find)(tie)
        self.assertEqual((all_answers(made), len(made)), behind)

    def test_no_rows(self):
        desk = Desk(RING, BOUNDS, lost=[1])
        news, made = tried(desk, ())
        self.assertEqual((news, len(made), all_answers(made)), ([], 0, all_answers(desk)))

    def refused(self, desk, rows, *error):
        before, deeds = all_answers(desk), len(desk)
        check_error(self, lambda: tried(desk, rows), *error)
        self.assertEqual((all_answers(desk), len(desk)), (before, deeds))

    def test_rows_of_a_wrong_form(self):
        desk = Desk(RING, BOUNDS)
        for rows in (None, "back", 3, {0: ("back",)}, {("back",)}, True):
            self.refused(desk, rows, e.BadRow, -1)
        good = ("lose", 0)
        for row in (None, 3, "back", (), [], ("ask",), ("ask", 0), ("ask", 0, 5, 5), ("narrow", 0, 1), ("reset", 0, 1),
                    ("lose",), ("lose", 0, 1), ("find", 0, 1), ("back", 0), ("Back",), ("finish", 0), (None,), (["back"],),
                    (0, "lose"), {"lose": 0}, ("narrow", 0, 1, 2, 3), ("reset", 0, 1, 2, 3), (b"back",), ("",)):
            self.refused(desk, [row], e.BadRow, 0)
            self.refused(desk, [good, ["back"], row, None], e.BadRow, 2)
            # A row that is refused as a deed stands behind a row of a wrong form.
            self.refused(desk, (("find", 0), ("lose", None), row), e.BadRow, 2)

    def test_deeds_that_are_refused(self):
        desk = Desk(RING, BOUNDS)
        desk.narrow(2, 1, 5)
        for rows, error in (
            ([("lose", 0), ("lose", 0)], (e.IsLost, 0)),
            ([("back",), ("back",)], (e.NothingBack,)),
            ([("ask", 2, 0)], (e.BadNumber, "amount")),
            ([("ask", 2, None), ("lose", 9)], (e.BadNumber, "amount")),
            ([["lose", 1], ["narrow", 2, 0, 3]], (e.BadStretch, 2)),
            ([("reset", 2, 4, 3)], (e.BadStretch, 2)),
            ([("lose", 0), ("back",), ("find", 0)], (e.NotLost, 0)),
            ([("find", 3), ("back",)], (e.BadTie, "tie")),
            ([("lose", "0")], (e.BadTie, "tie")),
        ):
            self.refused(desk, rows, *error)
        self.assertEqual(tried(desk, [("back",), ("ask", 2, 0)])[1].stretches.pairs[2], (0, 0))


class Shared(unittest.TestCase):
    def test_a_trial_is_no_deed(self):
        desk = Desk(RING, BOUNDS)
        with Trial(desk):
            self.assertEqual(len(desk), 0)
        check_error(self, desk.back, e.NothingBack)

    def test_a_desk_remade_within_a_trial(self):
        desk = Desk(RING, BOUNDS)
        with Trial(desk):
            desk.narrow(2, 1, 5)
            anew = Desk(RING, desk.stretches, lost=desk.lost)
            self.assertEqual(all_answers(anew), all_answers(desk))


if __name__ == "__main__":
    unittest.main()
