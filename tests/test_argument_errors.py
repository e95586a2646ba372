"""[3], [27], [61]: the error of each argument, its fields, and which one of two errors is raised."""

import unittest

from leastgates import errors as e
from leastgates.lots import all_sides, lots_between
from leastgates.leasts import fit_sides
from leastgates.stretches import Stretches
from leastgates.trees import all_trees
from tests.asks import all_asks
from tests.forms import ONE, TIES
from tests.support import check_error

ASKS = all_asks()


class ArgumentErrors(unittest.TestCase):
    def expect(self, ask, changes, error):
        arguments = list(ask.good)
        for at, value in changes.items():
            arguments[at] = value
        with self.subTest(ask=ask.name, changes=changes):
            check_error(self, lambda: ask.call(*arguments), *error)

    def test_right_calls_raise_nothing(self):
        for ask in ASKS:
            with self.subTest(ask=ask.name):
                ask.call(*ask.good)

    def test_each_wrong_form(self):
        for ask in ASKS:
            for at, form in enumerate(ask.forms):
                for value, error in form.wrong:
                    self.expect(ask, {at: value}, error)

    def test_of_two_wrong_forms_the_left_one(self):
        for ask in ASKS:
            for at, form in enumerate(ask.forms):
                for later in range(at + 1, len(ask.forms)):
                    for value, error in form.wrong[::5]:
                        for other, _ in ask.forms[later].wrong[::6]:
                            self.expect(ask, {at: value, later: other}, error)

    def test_what_is_due_behind_the_forms(self):
        for ask in ASKS:
            for changes, error in ask.later + ask.last:
                self.expect(ask, changes, error)

    def test_forms_come_ahead_of_what_is_due_behind(self):
        for ask in ASKS:
            for changes, _ in ask.later + ask.last:
                for at, form in enumerate(ask.forms):
                    for value, error in form.wrong[::4]:
                        if at not in changes:
                            self.expect(ask, {**changes, at: value}, error)

    def test_of_two_errors_behind_the_forms_the_first(self):
        for ask in ASKS:
            due = ask.later + ask.last
            for first, (changes, error) in enumerate(due):
                for more, _ in due[first + 1:]:
                    if not set(changes) & set(more):
                        self.expect(ask, {**more, **changes}, error)

    def test_too_many(self):
        for ask in ASKS:
            if ask.big is not None:
                self.expect(ask, ask.big, (e.TooMany, ask.limit))
                for changes, _ in ask.last:
                    self.expect(ask, {**changes, **ask.big}, (e.TooMany, ask.limit))

    def test_all_other_errors_come_ahead_of_too_many(self):
        for ask in ASKS:
            if ask.big is not None:
                for changes, error in ask.later:
                    bigger = any(self.is_right_when_bigger(value) for value in changes.values())
                    if not set(changes) & set(ask.big) and not bigger:
                        self.expect(ask, {**ask.big, **changes}, error)
                for at, form in enumerate(ask.forms):
                    for value, error in form.wrong:
                        if at not in ask.big and not self.is_right_when_bigger(value):
                            self.expect(ask, {**ask.big, at: value}, error)

    def is_right_when_bigger(self, value):
        """What is wrong because the small net ends there: a place, a lot with it, or all places as a side."""
        if isinstance(value, (list, tuple)):
            nested = any(self.is_right_when_bigger(item) for item in value if isinstance(item, (list, tuple)))
            return nested or 4 in value or set(map(repr, value)) == set("0123")
        return value == 4

    def test_twoway_comes_first(self):
        for ask in ASKS:
            if ask.twoway:
                self.expect(ask, {0: ONE}, (e.NotTwoway,))
                for at, form in enumerate(ask.forms[1:], 1):
                    for value, _ in form.wrong[::3]:
                        self.expect(ask, {0: ONE, at: value}, (e.NotTwoway,))
                for changes, _ in ask.later + ask.last:
                    self.expect(ask, {**changes, 0: ONE}, (e.NotTwoway,))
                if ask.big is not None and 0 in ask.big:
                    self.expect(ask, {0: type(ONE)(9, TIES)}, (e.NotTwoway,))

    def test_both_kinds_of_nets_where_two_way_is_not_said(self):
        for ask in ASKS:
            if ask.good and hasattr(ask.good[0], "KIND") and not ask.twoway and ask.name != "check_twoway":
                if ask.name not in ("lesser_two",):
                    with self.subTest(ask=ask.name):
                        self.answers(ask, ONE)

    def answers(self, ask, net):
        """The call answers for another kind of net, or refuses for what its lots cost there alone."""
        try:
            ask.call(net, *ask.good[1:])
        except (e.NotHeld, e.NotAFilling, e.NotLeast):
            pass

    def test_generators_raise_at_the_first_item(self):
        for made, error in (
            (lambda: all_sides(0), (e.BadNumber, "size")),
            (lambda: all_sides(1, with_place=1), (e.BadPlace, "with_place")),
            (lambda: all_sides(12), (e.TooMany, 12)),
            (lambda: lots_between([0, 0], 3), (e.BadLot, 1)),
            (lambda: lots_between([0], 3), (e.BadLot, -1)),
            (lambda: lots_between([0], list(range(9))), (e.TooMany, 9)),
            (lambda: fit_sides(9, [0], [0]), (e.Meeting, 0)),
            (lambda: fit_sides(9, [0], [1]), (e.TooMany, 9)),
            (lambda: all_trees(None), (e.BadNumber, "size")),
            (lambda: all_trees(12), (e.TooMany, 12)),
            (lambda: Stretches([(0, 1)] * 12).worlds(), (e.TooMany, 3001)),
        ):
            check_error(self, lambda: next(made()), *error)

    def test_limits_stand_just_where_they_are_told(self):
        eight = {"fit_sides": 8, "all_sides": 8, "all_trees": 6}
        for ask in ASKS:
            if ask.big is None:
                continue
            if ask.most is not None:
                with self.subTest(ask=ask.name):
                    ask.call(*[ask.most.get(at, value) for at, value in enumerate(ask.good)])
                continue
            at, value = next(iter(ask.big.items()))
            if isinstance(value, int):
                smaller = eight[ask.name]
            elif isinstance(value, list):
                smaller = value[1:]
            else:
                smaller = type(value)(value.size - 1, TIES)
            arguments = list(ask.good)
            arguments[at] = smaller
            with self.subTest(ask=ask.name):
                ask.call(*arguments)


if __name__ == "__main__":
    unittest.main()
