"""All errors of the package. Each one stands directly below GatesError and keeps its fields."""


class GatesError(ValueError):
    """The base of all errors of the package."""


class BadNumber(GatesError):
    """The argument called name is no integer in its range."""

    def __init__(self, name):
        self.name = name


class BadPlace(GatesError):
    """The argument called name is no place."""

    def __init__(self, name):
        self.name = name


class BadTie(GatesError):
    """The argument called name is no tie."""

    def __init__(self, name):
        self.name = name


class BadLot(GatesError):
    """A lot is wrong at the index at; -1 if it is no list and no tuple."""

    def __init__(self, at):
        self.at = at


class BadTies(GatesError):
    """A tie set is wrong at the index at."""

    def __init__(self, at):
        self.at = at


class BadNet(GatesError):
    """The ties of a net are wrong at the index at."""

    def __init__(self, at):
        self.at = at


class BadWorld(GatesError):
    """A world is wrong at the index at."""

    def __init__(self, at):
        self.at = at


class BadStretch(GatesError):
    """Stretches are wrong at the index at."""

    def __init__(self, at):
        self.at = at


class BadRow(GatesError):
    """A row is wrong at the index at."""

    def __init__(self, at):
        self.at = at


class BadTable(GatesError):
    """A table is wrong at the index at."""

    def __init__(self, at):
        self.at = at


class BadTree(GatesError):
    """A tree is wrong at the index at."""

    def __init__(self, at):
        self.at = at


class BadText(GatesError):
    """A line of a text is wrong; lines count from 1."""

    def __init__(self, line):
        self.line = line


class OtherSize(GatesError):
    """A family, a tree or a grove is of another size than the net; size is its own one."""

    def __init__(self, size):
        self.size = size


class OtherKind(GatesError):
    """Two things do not belong together."""


class NotTwoway(GatesError):
    """The net is one-way."""


class EmptyLot(GatesError):
    """The lot that is passed as the parameter name must have a place."""

    def __init__(self, name):
        self.name = name


class NotASide(GatesError):
    """The lot is empty or has all places."""


class Meeting(GatesError):
    """Two lots that must be apart have this place, the least one, in common."""

    def __init__(self, place):
        self.place = place


class NotInside(GatesError):
    """This place, the least one, is not in the lot that should have it."""

    def __init__(self, place):
        self.place = place


class SamePlace(GatesError):
    """Two places that must differ are this one place."""

    def __init__(self, place):
        self.place = place


class TooMany(GatesError):
    """More would have to be listed than the program lists."""

    def __init__(self, size):
        self.size = size


class NoWorld(GatesError):
    """A family would have no world."""


class NotInFamily(GatesError):
    """A world is no world of the family; its capacity of the tie at is the first wrong one."""

    def __init__(self, at):
        self.at = at


class NotHeld(GatesError):
    """The holders do not hold a lot; the field lot is a cheaper one between them."""

    def __init__(self, lot):
        self.lot = lot


class NotServing(GatesError):
    """The lot does not serve the places."""

    def __init__(self, lot):
        self.lot = lot


class NotLeast(GatesError):
    """The lot is no least side."""

    def __init__(self, lot):
        self.lot = lot


class NotAFilling(GatesError):
    """A row is no filling, or two rows do not fit at the tie at."""

    def __init__(self, at):
        self.at = at


class NotACutTree(GatesError):
    """A tree is no cut tree; the side of this edge is not least."""

    def __init__(self, edge):
        self.edge = edge


class NotSettled(GatesError):
    """The pair of the places one and other is not settled."""

    def __init__(self, one, other):
        self.one = one
        self.other = other


class NotOneLot(GatesError):
    """The places one and other are not in one lot of the grove."""

    def __init__(self, one, other):
        self.one = one
        self.other = other


class NotFull(GatesError):
    """The places one and other share a lot of the grove, which has not a lot for each place."""

    def __init__(self, one, other):
        self.one = one
        self.other = other


class Crossing(GatesError):
    """The sides at the indexes one and other cross, or part the places alike."""

    def __init__(self, one, other):
        self.one = one
        self.other = other


class NotPrivate(GatesError):
    """The side at the index at is not private."""

    def __init__(self, at):
        self.at = at


class NotARing(GatesError):
    """The net is no ring, or holds none."""


class HoldsARing(GatesError):
    """The net holds a ring."""


class IsLost(GatesError):
    """The tie is lost."""

    def __init__(self, tie):
        self.tie = tie


class NotLost(GatesError):
    """The tie is not lost."""

    def __init__(self, tie):
        self.tie = tie


class FixedWanted(GatesError):
    """What would be assigned is fixed; only deeds change it."""


class NothingBack(GatesError):
    """There is no deed to take back."""


class Closed(GatesError):
    """The trial was entered before."""
