"""Stretches: families in which each tie has a lowest and a highest capacity."""

from leastgates.checks import first_wrong, good_apart_ties, good_tie, good_ties, good_world
from leastgates.checks import is_integer, is_row, need_family
from leastgates.errors import BadNumber, BadStretch, NotInFamily
from leastgates.families import Family, need_few_worlds, sum_of


class Stretches(Family):
    """All worlds between the lowest and the highest capacities; these never change."""

    WORD = "stretches"

    def __init__(self, pairs):
        kept = good_stretches(pairs)
        Family.__init__(self, len(kept), kept)
        self.pairs = kept
        self.lows = tuple([pair[0] for pair in kept])
        self.highs = tuple([pair[1] for pair in kept])

    @classmethod
    def unknown(cls, many, top):
        """Stretches from 0 to top for each of so many ties."""
        good_amount("many", many)
        good_amount("top", top)
        return cls([(0, top)] * many)

    @classmethod
    def seen_at(cls, world):
        """Stretches whose only world is this one."""
        return cls([(capacity, capacity) for capacity in good_world(None, world)])

    def gap(self, plus, minus):
        """The greatest sum over plus less the sum over minus."""
        ups, downs = good_apart_ties(self.many, plus, minus)
        return sum([self.highs[tie] for tie in ups]) - sum([self.lows[tie] for tie in downs])

    def gap_world(self, plus, minus):
        """A world in which the gap is reached."""
        ups, _ = good_apart_ties(self.many, plus, minus)
        return mixed(self.highs, self.lows, ups)

    def middle(self):
        """The middle: low and high together on each tie."""
        return sum_of([self.lows, self.highs])

    def has(self, world):
        """True for a world of the family."""
        return first_apart(self, good_world(self.many, world)) is None

    def worlds(self):
        """A generator of all worlds, ascending."""
        for world in worlds_between(self.pairs):
            yield world

    def unseen(self):
        """The ties with more than one capacity."""
        return tuple([tie for tie, (low, high) in enumerate(self.pairs) if low < high])

    def opposite(self, world):
        """The world that lies as far from the highs as this one from the lows."""
        capacities = good_world(self.many, world)
        need_agreeing(self, capacities)
        return tuple([low + high - capacities[tie] for tie, (low, high) in enumerate(self.pairs)])

    def ask(self, tie, amount):
        """New stretches in which the tie has this one capacity."""
        good_tie("tie", self.many, tie)
        low, high = self.pairs[tie]
        if not is_integer(amount) or not low <= amount <= high:
            raise BadNumber("amount")
        return with_pair(self, tie, (amount, amount))

    def narrow(self, tie, low, high):
        """New stretches in which the tie has a part of its stretch."""
        good_tie("tie", self.many, tie)
        least, most = self.pairs[tie]
        if not is_stretch((low, high)) or low < least or high > most:
            raise BadStretch(tie)
        return with_pair(self, tie, (low, high))

    def with_high(self, ties):
        """The world with these ties at their highs and all others at their lows."""
        return mixed(self.highs, self.lows, good_ties(self.many, ties))

    def with_low(self, ties):
        """The world with these ties at their lows and all others at their highs."""
        return mixed(self.lows, self.highs, good_ties(self.many, ties))


def side_high(net, stretches, lot):
    """The world with the gates of the lot at their highs and all other ties at their lows."""
    need_family(net, stretches)
    return stretches.with_high(net.gates(lot))


def side_low(net, stretches, lot):
    """The world with the gates of the lot at their lows and all other ties at their highs."""
    need_family(net, stretches)
    return stretches.with_low(net.gates(lot))


def near(world, number):
    """The stretches that reach by this number to both sides of the world, but not below 0."""
    capacities = good_world(None, world)
    good_amount("number", number)
    return Stretches([(max(0, capacity - number), capacity + number) for capacity in capacities])


def good_amount(name, value):
    """An integer of at least 0."""
    if not is_integer(value) or value < 0:
        raise BadNumber(name)
    return value


def is_stretch(pair):
    """True for a list or tuple of a low and a high."""
    if not is_row(pair) or len(pair) != 2:
        return False
    low, high = pair
    return is_integer(low) and is_integer(high) and 0 <= low <= high


def good_stretches(pairs):
    """The pairs of low and high, as tuples."""
    if not is_row(pairs):
        raise BadStretch(-1)
    wrong = first_wrong([is_stretch(pair) for pair in pairs])
    if wrong is not None:
        raise BadStretch(wrong)
    return tuple([tuple(pair) for pair in pairs])


def with_pair(stretches, tie, pair):
    """New stretches in which the tie has this pair."""
    return Stretches(stretches.pairs[:tie] + (pair,) + stretches.pairs[tie + 1:])


def mixed(inside, outside, ties):
    """The world with the capacities of the one world on the ties and of the other one elsewhere."""
    return tuple([inside[tie] if tie in ties else capacity for tie, capacity in enumerate(outside)])


def first_apart(stretches, world):
    """The least tie whose capacity is not in its stretch, None if there is none."""
    return first_wrong([low <= world[tie] <= high for tie, (low, high) in enumerate(stretches.pairs)])


def need_agreeing(stretches, world):
    """The world must agree with the stretches."""
    wrong = first_apart(stretches, world)
    if wrong is not None:
        raise NotInFamily(wrong)


def worlds_between(pairs):
    """All worlds between lows and highs, ascending; counted tie by tie before they are built."""
    found = [()]
    for low, high in pairs:
        need_few_worlds(len(found) * (high - low + 1))
        found = [world + (capacity,) for world in found for capacity in range(low, high + 1)]
    return found
