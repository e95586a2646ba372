"""Nets of places and ties, one-way and two-way."""

from leastgates.checks import good_lot, good_size, good_tie, is_pair, is_row, need_apart
from leastgates.errors import BadNet, NotTwoway, OtherKind

MOST_TIES = 40


class Net:
    """The base of Oneway and Twoway; what it says of gates is for one-way nets."""

    KIND = ""

    def __init__(self, size, ties):
        self.size = good_size(size)
        self.ties = good_ends(size, ties)

    @property
    def many(self):
        """The number of ties."""
        return len(self.ties)

    def gates(self, lot):
        """The ties that leave the lot."""
        places = good_lot(self.size, lot)
        return tuple([tie for tie, (a, b) in enumerate(self.ties) if a in places and b not in places])

    def inner(self, lot):
        """The ties with both ends in the lot."""
        places = good_lot(self.size, lot)
        return tuple([tie for tie, (a, b) in enumerate(self.ties) if a in places and b in places])

    def between(self, one, other):
        """The ties with one end in the one lot and one end in the other, in either direction."""
        here = good_lot(self.size, one)
        there = good_lot(self.size, other)
        need_apart(here, there)
        return tuple([
            tie for tie, (a, b) in enumerate(self.ties)
            if a in here and b in there or a in there and b in here
        ])

    def ends_of(self, tie):
        """The first and the second end of a tie."""
        return self.ties[good_tie("tie", self.many, tie)]

    def __len__(self):
        return len(self.ties)

    def __iter__(self):
        return iter(self.ties)

    def __contains__(self, pair):
        if not is_pair(self.size, pair):
            return False
        first, second = pair
        if (first, second) in self.ties:
            return True
        return self.KIND == "twoway" and (second, first) in self.ties

    def __eq__(self, other):
        if not isinstance(other, Net) or self.KIND != other.KIND:
            return False
        return self.size == other.size and self.ties == other.ties

    def __invert__(self):
        return net_of_kind(self.KIND, self.size, [(b, a) for a, b in self.ties])

    def __add__(self, other):
        if not isinstance(other, Net):
            return NotImplemented
        if self.KIND != other.KIND:
            raise OtherKind()
        by = self.size - 1
        moved = [(a + by, b + by) for a, b in other.ties]
        return net_of_kind(self.KIND, by + other.size, list(self.ties) + moved)


class Oneway(Net):
    """A net in which a tie is a gate of the lots that have its first end and miss its second end."""

    KIND = "oneway"


class Twoway(Net):
    """A net in which a tie is a gate of the lots that have just one of its ends."""

    KIND = "twoway"

    def gates(self, lot):
        """The ties with just one end in the lot."""
        places = good_lot(self.size, lot)
        return tuple([tie for tie, (a, b) in enumerate(self.ties) if (a in places) != (b in places)])


def good_ends(size, ties):
    """The ties of a net of so many places, a tuple of pairs."""
    if not is_row(ties) or len(ties) > MOST_TIES:
        raise BadNet(-1)
    for at, pair in enumerate(ties):
        if not is_pair(size, pair):
            raise BadNet(at)
    return tuple([tuple(pair) for pair in ties])


def net_of_kind(kind, size, ties):
    """A new net of the kind "oneway" or "twoway"."""
    if kind == "twoway":
        return Twoway(size, ties)
    return Oneway(size, ties)


def check_twoway(net):
    """NotTwoway is raised for a one-way net."""
    if net.KIND != "twoway":
        raise NotTwoway()


def all_lot(net):
    """The lot of all places."""
    return tuple(range(net.size))
