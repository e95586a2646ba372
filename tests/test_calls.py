"""[2]: no call changes an argument, lists that are returned are new, equal calls answer alike."""

import copy
import unittest

from leastgates.costs import amount, net_told
from leastgates.cuttrees import uncrossed
from leastgates.desks import Desk
from leastgates.families import Family
from leastgates.groves import Grove
from leastgates.joining import Held, joined
from leastgates.leftover import closed
from leastgates.lots import both, common, minus, parts, rest
from leastgates.nets import Net, Oneway, Twoway, all_lot
from leastgates.serving import Judge
from leastgates.shapes import glued
from leastgates.tables import net_of_table
from leastgates.texts import net_from, net_text
from leastgates.trees import Tree
from leastgates.trials import Trial
from tests.asks import all_asks
from tests.forms import ONE
from tests.support import caught
from tests.test_rules import DEFINED


def seen(value):
    """The value in a form that can be compared: nets, families and other objects by what they keep."""
    if isinstance(value, Judge):
        return seen(value.net), seen(value.family)
    if isinstance(value, Desk):
        return seen(value.net), value.stretches.pairs, value.lost, value.now.pairs, value.open_pairs(), len(value)
    if isinstance(value, Trial):
        return seen(value.desk), value.ended
    if isinstance(value, Grove):
        return seen(value.net), seen(value.family), value.lots, value.edges, value.posts
    if isinstance(value, (Family, Tree)):
        return type(value).__name__, [seen(item) for item in vars(value).values()]
    if isinstance(value, Net):
        return type(value).__name__, value.size, value.ties
    if isinstance(value, Held):
        return seen(value.net), value.world, value.holders, value.lot, value.row
    if type(value).__name__ == "FlowTable":
        return seen(value.net), value.world, value.numbers()
    if isinstance(value, (list, tuple)):
        return [seen(item) for item in value]
    return value


def kept(value):
    """The argument as it is told apart: a list is no tuple, and the order counts."""
    if isinstance(value, (list, tuple)):
        return type(value).__name__, [kept(item) for item in value]
    return seen(value)


# The calls that stand in no table of asks, as most of them check nothing: a function and its arguments.
OTHERS = {
    "both": (both, [2, 0], [1, 2]), "common": (common, [2, 0], [1, 2]), "minus": (minus, [2, 0], [1, 2]),
    "rest": (rest, 4, [2, 0]), "parts": (parts, [2, 0], 1, 2), "all_lot": (all_lot, ONE),
    "Oneway": (Oneway, 3, [[0, 1], (1, 2)]), "Twoway": (Twoway, 3, [[0, 1], (1, 2)]),
    "net_text": (net_text, ONE), "net_from": (net_from, "twoway 2\n0 1\n"), "amount": (amount, [3, 1, 2], [2, 0]),
    "net_told": (net_told, [4, 3, 5], [5, 3, 4]), "glued": (glued, ONE, ONE, ONE),
    "closed": (closed, [[0, 1], (1, 2)], [2, 1]), "net_of_table": (net_of_table, 2, [[0, 3], [3, 0]]),
    "joined": (joined, (0,), (0, 1), (2,), (1, 2)), "uncrossed": (uncrossed, [2, 0], [3, 2], 2),
}


class Calls(unittest.TestCase):
    def test_calls_that_check_nothing(self):
        for name, (function, *arguments) in OTHERS.items():
            before = [kept(value) for value in arguments]
            with self.subTest(name=name):
                self.assertEqual(seen(function(*arguments)), seen(function(*arguments)))
                self.assertEqual(before, [kept(value) for value in arguments])

    def test_each_name_of_the_interface_is_called(self):
        words = set(OTHERS) | {"Net", "Family"}
        for ask in all_asks():
            words |= {ask.name, ask.name.split(" ")[0], ask.name.split(" ")[-1], ask.name.split(".")[0]}
        for name, defined in DEFINED.items():
            for word in defined.split():
                with self.subTest(module=name, name=word):
                    self.assertIn(word, words)

    def test_no_argument_is_changed(self):
        for ask in all_asks():
            arguments = [copy.copy(value) for value in ask.good]
            before = [kept(value) for value in arguments]
            with self.subTest(ask=ask.name):
                ask.call(*arguments)
                self.assertEqual(before, [kept(value) for value in arguments])

    def test_a_refused_call_changes_nothing(self):
        for ask in all_asks():
            for changes, _ in ask.later + ask.last:
                arguments = [copy.copy(value) for value in ask.good]
                for at, value in changes.items():
                    arguments[at] = copy.copy(value)
                before = [kept(value) for value in arguments]
                with self.subTest(ask=ask.name, changes=changes):
                    caught(lambda: ask.call(*arguments))
                    self.assertEqual(before, [kept(value) for value in arguments])

    def test_equal_calls_answer_alike(self):
        for ask in all_asks():
            with self.subTest(ask=ask.name):
                self.assertEqual(seen(ask.call(*ask.good)), seen(ask.call(*ask.good)))

    def test_lists_and_tuples_in_any_order_are_alike(self):
        for ask in all_asks():
            with self.subTest(ask=ask.name):
                first = seen(ask.call(*ask.good))
                tuples = [tuple(value) if isinstance(value, list) else value for value in ask.good]
                self.assertEqual(first, seen(ask.call(*tuples)))
                turned = [self.reordered(ask, at) for at in range(len(ask.good))]
                self.assertEqual(first, seen(ask.call(*turned)))

    def reordered(self, ask, at):
        """The argument, a lot in another order."""
        value = ask.good[at]
        is_lot = any(error[0].__name__ == "BadLot" for _, error in ask.forms[at].wrong)
        return value[::-1] if is_lot and not ask.forms[at].ordered else value

    def test_a_list_that_is_returned_is_new(self):
        for ask in all_asks():
            answer = ask.call(*ask.good)
            lists = [answer] if isinstance(answer, list) else []
            if isinstance(answer, tuple):
                lists += [item for item in answer if isinstance(item, list)]
            for found in lists:
                with self.subTest(ask=ask.name):
                    first = seen(ask.call(*ask.good))
                    found.clear()
                    self.assertEqual(first, seen(ask.call(*ask.good)))

    def test_lots_rows_and_worlds_are_returned_as_tuples(self):
        names = ("lot_of", "corners", "world_of", "added", "greatest_flow", "first_side", "last_side", "steps_left",
                 "grow_closed", "raised", "holders_of", "greatest_held", "rectangle", "filling", "glue", "parted",
                 "lifted", "oneway gates", "twoway gates", "twoway inner", "twoway between", "twoway ends_of")
        asks = {ask.name: ask for ask in all_asks()}
        for name in names:
            with self.subTest(ask=name):
                self.assertIs(type(asks[name].call(*asks[name].good)), tuple)

    def test_objects_keep_copies(self):
        ties = [[0, 1], [1, 2]]
        net = type(ONE)(3, ties)
        ties[0][0] = 2
        ties.append([0, 2])
        self.assertEqual(net.ties, ((0, 1), (1, 2)))
        world, holders, lot = [1, 1], [0], [0, 1]
        held = Held(net, world, holders, lot)
        world[0] = 7
        holders.append(1)
        lot.append(2)
        self.assertEqual((held.world, held.holders, held.lot), ((1, 1), (0,), (0, 1)))


if __name__ == "__main__":
    unittest.main()
