"""A desk: a two-way net with partly known capacities, that takes deeds and takes them back."""

from leastgates.checks import first_wrong, good_lot, good_place, good_tie, good_ties, good_world, is_index
from leastgates.checks import need_apart, need_family, need_inside, need_listed, need_two
from leastgates.errors import BadStretch, FixedWanted, IsLost, NotInFamily, NothingBack, NotLost
from leastgates.flows import flow_of
from leastgates.lots import both, minus
from leastgates.nets import check_twoway
from leastgates.onetree import one_tree
from leastgates.regrets import regret
from leastgates.serving import pairs_of, pairs_settled, serving_of
from leastgates.steps import full_grove
from leastgates.stretches import Stretches, is_stretch, with_pair

MOST_AT_DESK = 7


class Desk:
    """A net with the stretches and the lost ties as they are now, and with the deeds that led there."""

    def __init__(self, net, stretches, *, lost=()):
        check_twoway(net)
        need_family(net, stretches)
        ties = good_ties(net.many, lost)
        need_listed(net.size, MOST_AT_DESK)
        self.net = net
        self.lost = ties
        self._stretches = stretches
        self._now = without_lost(stretches, ties)
        self._settled = pairs_settled(net, self._now)
        # For each deed, in order, the stretches and the lost ties ahead of it.
        self._past = ()

    @property
    def stretches(self):
        """The stretches, in which lost ties keep their pairs."""
        return self._stretches

    @stretches.setter
    def stretches(self, value):
        """Only deeds change the stretches."""
        raise FixedWanted()

    @property
    def now(self):
        """The stretches with 0 alone for each lost tie."""
        return self._now

    def ask(self, tie, amount):
        """The deed that tells the capacity of a tie; the news."""
        fresh = self._stretches.ask(tie, amount)
        need_found(self, tie)
        return self._do(fresh, self.lost)

    def narrow(self, tie, low, high):
        """The deed that gives a tie a part of its stretch; the news."""
        fresh = self._stretches.narrow(tie, low, high)
        need_found(self, tie)
        return self._do(fresh, self.lost)

    def reset(self, tie, low, high):
        """The deed that gives a tie any stretch; the news."""
        good_tie("tie", self.net.many, tie)
        if not is_stretch((low, high)):
            raise BadStretch(tie)
        need_found(self, tie)
        return self._do(with_pair(self._stretches, tie, (low, high)), self.lost)

    def lose(self, tie):
        """The deed that loses a tie; the news."""
        good_tie("tie", self.net.many, tie)
        need_found(self, tie)
        return self._do(self._stretches, both(self.lost, (tie,)))

    def find(self, tie):
        """The deed that finds a lost tie again; the news."""
        good_tie("tie", self.net.many, tie)
        if tie not in self.lost:
            raise NotLost(tie)
        return self._do(self._stretches, minus(self.lost, (tie,)))

    def back(self):
        """Takes the last deed back; the news."""
        if not self._past:
            raise NothingBack()
        stretches, lost = self._past[-1]
        self._past = self._past[:-1]
        return self._turn(stretches, lost)

    def is_settled(self, one, other):
        """True if some side serves the two places."""
        need_places(self.net, one, other)
        return (min(one, other), max(one, other)) in self._settled

    def side_for(self, one, other):
        """A side with the one place that serves the two, None if there is none."""
        need_places(self.net, one, other)
        return serving_of(self.net, self._now, (one,), (other,))

    def flow_ends(self, one, other):
        """The flow between two places at the lows and at the highs."""
        need_places(self.net, one, other)
        least = flow_of(self.net, self._now.lows, (one,), (other,))
        return least, flow_of(self.net, self._now.highs, (one,), (other,))

    def grove(self):
        """A full grove."""
        return full_grove(self.net, self._now)

    def many_sides(self):
        """The sides number."""
        return self.grove().many

    def tree(self):
        """A tree that is a cut tree in each world, None if there is none."""
        return one_tree(self.net, self._now)

    def open_pairs(self):
        """The ascending list of the pairs that no side serves."""
        return [pair for pair in pairs_of(self.net) if pair not in self._settled]

    def open_ties(self):
        """The ties with more than one capacity."""
        return self._now.unseen()

    def regret_of(self, side, one, other):
        """What the side costs at most beyond the flow from the one place to the other."""
        lot = good_lot(self.net.size, side)
        good_place("one", self.net.size, one)
        good_place("other", self.net.size, other)
        need_inside((one,), lot)
        need_apart((other,), lot)
        return regret(self.net, self._now, (one,), (other,), lot)

    def finish(self, world):
        """Asks unseen ties, as the world tells, until there is one tree; the ties that were asked."""
        capacities = good_world(self.net.many, world)
        need_told(self, capacities)
        found = []
        while self.tree() is None:
            tie = self._now.unseen()[0]
            self.ask(tie, capacities[tie])
            found.append(tie)
        return tuple(found)

    def _do(self, stretches, lost):
        """A deed that leads to these stretches and lost ties; the news."""
        self._past = self._past + ((self._stretches, self.lost),)
        return self._turn(stretches, lost)

    def _turn(self, stretches, lost):
        """Changes stretches and lost ties; the news."""
        before = self._settled
        self.lost = lost
        self._stretches = stretches
        self._now = without_lost(stretches, lost)
        self._settled = pairs_settled(self.net, self._now)
        return tuple(sorted(set(before) ^ set(self._settled)))

    def __len__(self):
        return len(self._past)

    def __iter__(self):
        return iter(self.lost)

    def __contains__(self, tie):
        return is_index(tie, self.net.many) and tie not in self.lost


def without_lost(stretches, lost):
    """The stretches with 0 alone for each lost tie."""
    return Stretches([(0, 0) if tie in lost else pair for tie, pair in enumerate(stretches.pairs)])


def need_found(desk, tie):
    """The tie must not be lost."""
    if tie in desk.lost:
        raise IsLost(tie)


def need_places(net, one, other):
    """Two different places of the net."""
    good_place("one", net.size, one)
    good_place("other", net.size, other)
    need_two(one, other)


def need_told(desk, world):
    """The world must agree with the stretches, but for the lost ties."""
    pairs = desk.stretches.pairs
    wrong = first_wrong([tie in desk.lost or low <= world[tie] <= high for tie, (low, high) in enumerate(pairs)])
    if wrong is not None:
        raise NotInFamily(wrong)
