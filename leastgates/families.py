"""Families of worlds: their base, told and listed families, and either of two families.

An either family may be a long chain of families. So what it answers is found from the list of
its leaves, the families in it that are no either families, and not by going down the chain.
"""

from leastgates.checks import good_apart_ties, good_world, is_row
from leastgates.costs import amount
from leastgates.errors import BadWorld, NoWorld, OtherSize, TooMany

MOST_WORLDS = 3000


class Family:
    """The base of all families; made is what a family was made from, in plain values."""

    WORD = ""

    def __init__(self, many, made):
        self._ties = tuple(range(many))
        self._made = made

    @property
    def many(self):
        """The number of ties."""
        return len(self._ties)

    def __len__(self):
        return len(self._ties)

    def seen(self):
        """The ties that have the same capacity in all worlds."""
        return tuple([tie for tie in self._ties if self.gap((tie,), ()) == -self.gap((), (tie,))])

    def dead(self):
        """The ties that have the capacity 0 in all worlds."""
        return tuple([tie for tie in self._ties if self.gap((tie,), ()) == 0])

    def __contains__(self, world):
        try:
            return self.has(world)
        except BadWorld:
            return False

    def __or__(self, other):
        if not isinstance(other, Family):
            return NotImplemented
        return Either(self, other)

    def __eq__(self, other):
        return isinstance(other, Family) and made_from(self) == made_from(other)


class Told(Family):
    """One world."""

    WORD = "told"

    def __init__(self, world):
        capacities = good_world(None, world)
        Family.__init__(self, len(capacities), capacities)
        self.world = capacities

    def gap(self, plus, minus):
        """The greatest sum over plus less the sum over minus."""
        ups, downs = good_apart_ties(self.many, plus, minus)
        return amount(self.world, ups) - amount(self.world, downs)

    def gap_world(self, plus, minus):
        """A world in which the gap is reached."""
        good_apart_ties(self.many, plus, minus)
        return self.world

    def middle(self):
        """The middle: the world itself."""
        return self.world

    def has(self, world):
        """True for a world of the family."""
        return good_world(self.many, world) == self.world

    def worlds(self):
        """A generator of all worlds, ascending."""
        yield self.world


class Listed(Family):
    """One or more worlds; equal ones count each for itself in the middle."""

    WORD = "listed"

    def __init__(self, world, *more):
        first = good_world(None, world)
        choices = tuple([first] + [good_choice(len(first), told) for told in more])
        Family.__init__(self, len(first), choices)
        self.choices = choices

    @classmethod
    def of_list(cls, rows):
        """The listed family of the worlds in a list or tuple."""
        if not is_row(rows) or len(rows) == 0:
            raise NoWorld()
        return cls(*rows)

    def gap(self, plus, minus):
        """The greatest sum over plus less the sum over minus."""
        ups, downs = good_apart_ties(self.many, plus, minus)
        return max(gaps_of(self.choices, ups, downs))

    def gap_world(self, plus, minus):
        """A world in which the gap is reached."""
        ups, downs = good_apart_ties(self.many, plus, minus)
        gaps = gaps_of(self.choices, ups, downs)
        return self.choices[gaps.index(max(gaps))]

    def middle(self):
        """The middle: the sum of all listed worlds."""
        return sum_of(self.choices)

    def has(self, world):
        """True for a world of the family."""
        return good_world(self.many, world) in self.choices

    def worlds(self):
        """A generator of all worlds, ascending, each once."""
        for world in few_worlds(self.choices):
            yield world


class Either(Family):
    """The worlds of two families."""

    WORD = "either"

    def __init__(self, one, other):
        if one.many != other.many:
            raise OtherSize(other.many)
        Family.__init__(self, one.many, ())
        self.one = one
        self.other = other

    def gap(self, plus, minus):
        """The greatest sum over plus less the sum over minus."""
        return max([leaf.gap(plus, minus) for leaf in leaves_of(self)])

    def gap_world(self, plus, minus):
        """A world in which the gap is reached."""
        leaves = leaves_of(self)
        gaps = [leaf.gap(plus, minus) for leaf in leaves]
        return leaves[gaps.index(max(gaps))].gap_world(plus, minus)

    def middle(self):
        """The middle: the sum of both middles."""
        return sum_of([leaf.middle() for leaf in leaves_of(self)])

    def has(self, world):
        """True for a world of the family."""
        capacities = good_world(self.many, world)
        return any([leaf.has(capacities) for leaf in leaves_of(self)])

    def worlds(self):
        """A generator of all worlds, ascending, each once."""
        found = []
        for leaf in leaves_of(self):
            found = few_worlds(found + list(leaf.worlds()))
        for world in found:
            yield world


def either(family, *rest):
    """All these families in one either family, from left to right."""
    whole = family
    for more in rest:
        whole = whole | more
    return whole


def good_choice(many, world):
    """A further world of a listed family."""
    capacities = good_world(None, world)
    if len(capacities) != many:
        raise OtherSize(len(capacities))
    return capacities


def gaps_of(choices, ups, downs):
    """For each world its sum over ups less its sum over downs."""
    return [amount(world, ups) - amount(world, downs) for world in choices]


def sum_of(rows):
    """The sum of one or more worlds."""
    return tuple([sum(column) for column in zip(*rows)])


def few_worlds(rows):
    """The worlds in a new list, ascending, each once."""
    found = sorted(set(rows))
    need_few_worlds(len(found))
    return found


def need_few_worlds(count):
    """So many worlds must not be too many to be listed."""
    if count > MOST_WORLDS:
        raise TooMany(MOST_WORLDS + 1)


def parts_of(family):
    """The family itself and, if it is an either one, all families that it is made from, in a fixed order."""
    found = []
    ahead = [family]
    while ahead:
        part = ahead.pop()
        found.append(part)
        if part.WORD == "either":
            ahead.append(part.other)
            ahead.append(part.one)
    return found


def leaves_of(family):
    """The families in it that are no either families, from left to right."""
    return [part for part in parts_of(family) if part.WORD != "either"]


def made_from(family):
    """Kind and plain arguments of all parts; with either families ahead of their parts the order tells all."""
    return [(part.WORD, part._made) for part in parts_of(family)]
