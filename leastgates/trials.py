"""Trials: deeds at a desk that are undone as soon as their block is left."""

from leastgates.checks import first_wrong, is_row
from leastgates.desks import Desk
from leastgates.errors import BadRow, Closed
from leastgates.nets import Twoway
from leastgates.stretches import Stretches

# The words of the rows of tried, and how many entries a row with the word has.
LENGTHS = {"ask": 3, "narrow": 4, "reset": 4, "lose": 2, "find": 2, "back": 1}


class Trial:
    """A block behind which the desk is as it was when the block was entered."""

    def __init__(self, desk):
        self.desk = desk
        self._entered = False
        self._ended = False
        self._stretches = None
        self._lost = None
        self._now = None
        self._settled = None
        self._past = None

    @property
    def ended(self):
        """True as soon as the block is left."""
        return self._ended

    def __enter__(self):
        if self._entered:
            raise Closed()
        self._entered = True
        self._stretches = self.desk.stretches
        self._lost = self.desk.lost
        self._now = self.desk.now
        self._settled = self.desk._settled
        self._past = self.desk._past
        return self

    def __exit__(self, kind, value, trace):
        desk = self.desk
        desk._stretches = self._stretches
        desk.lost = self._lost
        desk._now = self._now
        desk._settled = self._settled
        desk._past = self._past
        self._ended = True


def tried_loss(desk, tie):
    """The news that losing the tie would give."""
    with Trial(desk):
        return desk.lose(tie)


def tried(desk, rows):
    """The news of the deeds that the rows tell, and a new desk as this one would be then."""
    if not is_row(rows):
        raise BadRow(-1)
    wrong = first_wrong([is_deed(row) for row in rows])
    if wrong is not None:
        raise BadRow(wrong)
    with Trial(desk):
        news = [done(desk, row) for row in rows]
        return news, copied(desk)


def is_deed(row):
    """True for a row that tells a deed, or that the last one is taken back."""
    if not is_row(row) or len(row) == 0 or not isinstance(row[0], str):
        return False
    return LENGTHS.get(row[0], 0) == len(row)


def done(desk, row):
    """The news of the deed that the row tells."""
    word = row[0]
    if word == "ask":
        return desk.ask(row[1], row[2])
    if word == "narrow":
        return desk.narrow(row[1], row[2], row[3])
    if word == "reset":
        return desk.reset(row[1], row[2], row[3])
    if word == "lose":
        return desk.lose(row[1])
    if word == "find":
        return desk.find(row[1])
    return desk.back()


def copied(desk):
    """A new desk without deeds, as this one is."""
    net = Twoway(desk.net.size, desk.net.ties)
    return Desk(net, Stretches(desk.stretches.pairs), lost=desk.lost)
