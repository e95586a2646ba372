"""[12]: nets as texts."""

import unittest

from leastgates.errors import BadNet, BadNumber, BadText
from leastgates.nets import Oneway, Twoway
from leastgates.texts import net_from, net_text
from tests.support import check_error, fields_of, small_cases


class Texts(unittest.TestCase):
    def test_net_text(self):
        self.assertEqual(net_text(Twoway(3, [(0, 1), (2, 2)])), "twoway 3\n0 1\n2 2\n")
        self.assertEqual(net_text(Oneway(12, [(11, 10)])), "oneway 12\n11 10\n")
        self.assertEqual(net_text(Oneway(1, [])), "oneway 1\n")

    def test_there_and_back(self):
        nets = [net for net, _ in small_cases(6, 40, least=1, most=12, ties=40)]
        nets += [Oneway(12, [(11, 0)] * 40), Twoway(1, [(0, 0)] * 40)]
        for net in nets:
            text = net_text(net)
            read = net_from(text)
            self.assertTrue(read == net)
            self.assertIs(type(read), type(net))
            self.assertEqual(net_text(read), text)

    def check_form(self, text, line):
        error = check_error(self, lambda: net_from(text), BadText, line)
        self.assertIsNone(error.__cause__)

    def check_cause(self, text, line, kind, **fields):
        error = check_error(self, lambda: net_from(text), BadText, line)
        self.assertIs(type(error.__cause__), kind)
        self.assertEqual(fields_of(error.__cause__), fields)

    def test_no_text(self):
        for text in (None, True, False, 3, b"twoway 3\n", ["twoway 3\n"], ("twoway 3\n",), ""):
            self.check_form(text, 1)

    def test_wrong_first_lines(self):
        for line in ("", " ", "twoway", "twoway ", " twoway 3", "twoway  3", "twoway 3 ", "Twoway 3", "bothway 3",
                     "twoway 03", "twoway +3", "twoway -3", "twoway 3.0", "twoway 3 0", "3", "twoway\t3",
                     "twoway 3\r", "twoway \u0663", "twoway \u00b3", "twoway 1_0", "twoway 013", "twoway x",
                     "twoway 00", "oneway3", "twoway 3\x0b"):
            self.check_form(line + "\n", 1)
            self.check_form(line + "\n9 9 9\n", 1)
            self.check_form(line, 1)

    def test_wrong_sizes(self):
        for word in ("0", "13", "100", "999999999", "1000000000", "1" * 5000):
            for kind in ("oneway", "twoway"):
                self.check_cause(f"{kind} {word}\n", 1, BadNumber, name="size")
                self.check_cause(f"{kind} {word}\n\n9", 1, BadNumber, name="size")
                self.check_form(f"{kind} {word}", 1)

    def test_wrong_lines(self):
        for line in ("", " ", "0", "0 ", " 0 1", "0  1", "0 1 ", "0 1 2", "00 1", "0 01", "-1 0", "0 +1", "0,1",
                     "a b", "0\t1", "0 1\r", "0 \u0661", "twoway 3", "0 1.0"):
            self.check_form(f"twoway 3\n{line}\n", 2)
            self.check_form(f"oneway 3\n0 1\n{line}\n7 7\n", 3)

    def test_the_last_line_feed(self):
        self.check_form("twoway 3", 1)
        self.check_form("twoway 13", 1)
        self.check_form("twoway 3\n0 1", 2)
        self.check_form("twoway 3\n0 1\n1 9", 3)
        self.check_form("twoway 3\n0 1\n1 2\n ", 4)
        self.check_form("twoway 3\n0 1\n\n", 3)
        self.check_form("twoway 3\n\n", 2)

    def test_ends_that_are_no_places(self):
        self.check_cause("twoway 3\n0 1\n1 3\n", 3, BadNet, at=1)
        self.check_cause("twoway 3\n3 0\n1 x\n", 2, BadNet, at=0)
        self.check_cause("oneway 12\n0 11\n0 1\n12 0\n", 4, BadNet, at=2)
        self.check_cause("oneway 1\n0 " + "9" * 5000 + "\n", 2, BadNet, at=0)
        self.check_cause("oneway 12\n0 1000000000\n", 2, BadNet, at=0)

    def test_the_41st_tie(self):
        head = "twoway 3\n" + "0 1\n" * 40
        self.assertEqual(net_from(head).many, 40)
        self.check_cause(head + "0 1\n", 42, BadNet, at=-1)
        self.check_cause(head + "0 7\n", 42, BadNet, at=-1)
        self.check_cause(head + "0 1\n0 x\n", 42, BadNet, at=-1)
        self.check_form(head + "0 x\n", 42)
        self.check_form(head + "0 1", 42)
        self.check_cause("twoway 3\n0 1\n0 3\n" + "0 1\n" * 40, 3, BadNet, at=1)

    def test_the_example(self):
        check_error(self, lambda: net_from("twoway 3\n0 1\n1 3\n"), BadText, 3)


if __name__ == "__main__":
    unittest.main()
