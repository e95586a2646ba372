"""[145]: the listing of a desk, line by line."""

import unittest
from random import Random

from leastgates import errors as e
from leastgates.desks import Desk
from leastgates.listings import listing, tie_line
from leastgates.nets import Twoway
from leastgates.stretches import Stretches
from leastgates.trials import Trial
from tests.deskwork import do, random_desk, random_row
from tests.support import check_error, counted_cost
from tests.woods import MOST


def told_span(low, high):
    return str(low) if low == high else str(low) + ".." + str(high)


class Listings(unittest.TestCase):
    def check(self, desk):
        text = listing(desk)
        net, grove, now = desk.net, desk.grove(), desk.now
        self.assertTrue(text.endswith("\n"))
        lines = text.split("\n")[:-1]
        told = ["%d places, %d ties, sides %d of %d, deeds %d"
                % (net.size, net.many, grove.many, net.size - 1, len(desk))]
        for tie, (a, b) in enumerate(net.ties):
            low, high = desk.stretches.pairs[tie]
            told.append("%d %d-%d %s" % (tie, a, b, "lost" if tie in desk.lost else told_span(low, high)))
            self.assertEqual(tie_line(desk, tie), told[-1])
        told += ["lot " + " ".join(map(str, lot)) for lot in grove.lots]
        for side in grove.side_list():
            ends = counted_cost(net, now.lows, side), counted_cost(net, now.highs, side)
            told.append("side " + " ".join(map(str, side)) + " at " + told_span(*ends))
        opened = " ".join("%d-%d" % pair for pair in desk.open_pairs())
        told.append("one tree" if desk.tree() is not None else "open " + opened)
        self.assertEqual(lines, told)
        return lines[-1].split(" ")[0]

    def test_line_by_line(self):
        random = Random(1450)
        seen = {"one": 0, "open": 0}
        for _ in range(40):
            desk, *state = random_desk(random, least=1, ties=9)
            for _ in range(random.randint(0, 4)):
                row, *state = random_row(random, *state)
                do(desk, row)
            seen[self.check(desk)] += 1
        self.assertGreater(min(seen.values()), 4)

    def test_whole_texts(self):
        one = Desk(Twoway(1, []), Stretches([]))
        self.assertEqual(listing(one), "1 places, 0 ties, sides 0 of 0, deeds 0\nlot 0\none tree\n")
        desk = Desk(Twoway(2, [(1, 0), (1, 1)]), Stretches([(3, MOST), (0, 0)]), lost=[1])
        told = "2 places, 2 ties, sides 1 of 1, deeds {}\n0 1-0 {}\n1 1-1 lost\nlot 0\nlot 1\nside 0 at {}\none tree\n"
        span = "3..1" + "0" * 30
        self.assertEqual(listing(desk), told.format(0, span, span))
        desk.ask(0, 4)
        self.assertEqual(listing(desk), told.format(1, 4, 4))
        with Trial(desk):
            desk.lose(0)
            self.assertEqual(listing(desk), told.format(2, "lost", 0))
        self.assertEqual(listing(desk), told.format(1, 4, 4))

    def test_all_ties_lost(self):
        desk = Desk(Twoway(3, [(0, 1), (1, 2), (2, 0)]), Stretches([(1, 2)] * 3), lost=[0, 1, 2])
        lines = listing(desk).splitlines()
        self.assertEqual(lines[:4], ["3 places, 3 ties, sides 2 of 2, deeds 0", "0 0-1 lost", "1 1-2 lost",
                                     "2 2-0 lost"])
        self.assertEqual(sorted(line.split(" at ")[1] for line in lines[7:9]), ["0", "0"])

    def test_errors(self):
        desk = Desk(Twoway(2, [(1, 0)]), Stretches([(0, 1)]))
        for tie in (-1, 1, True, None, "0", [0]):
            check_error(self, lambda: tie_line(desk, tie), e.BadTie, "tie")


if __name__ == "__main__":
    unittest.main()
