"""What tables of calls are made of, for tests of errors and of calls.

An Ask tells a function, its arguments in a right call, what form each argument has, and the
errors behind those of form in the order in which they are due.
"""

from leastgates import errors as e
from leastgates.changes import Losses, Moves
from leastgates.families import Either, Listed, Told
from leastgates.nets import Oneway, Twoway
from leastgates.stretches import Stretches
from leastgates.tables import FlowTable

TIES = [(0, 1), (1, 2), (2, 3), (0, 3), (1, 1)]
TWO = Twoway(4, TIES)
ONE = Oneway(4, TIES)
BIG = Twoway(9, TIES)
WORLD = [3, 2, 4, 1, 2]
TABLE = FlowTable(TWO, WORLD)
PAIRS = [(3, 5), [2, 2], (1, 4), (0, 1), [0, 3]]
TOLD = Told(WORLD)
LISTED = Listed(WORLD, [3, 0, 4, 1, 0], WORLD)
STRETCHES = Stretches(PAIRS)
LOSSES = Losses(WORLD, 1)
MOVES = Moves(WORLD, 1)
EITHER = Either(LISTED, Either(STRETCHES, LOSSES))
FAMILIES = {"told": TOLD, "listed": LISTED, "stretches": STRETCHES, "losses": LOSSES, "moves": MOVES,
            "either": EITHER}
NOT_INTEGERS = (True, False, None, "1", [1], (0,), 1.0, {}, b"1")
NOT_ROWS = (True, False, None, 0, 7, "01", b"01", {0: 1}, {0, 1}, range(2), 1.5)


class Form:
    """What makes an argument wrong by its form alone: pairs of a wrong value and its error.

    ordered tells that the order of the entries counts although the error is one for lots.
    """

    def __init__(self, wrong, ordered=False):
        self.wrong = wrong
        self.ordered = ordered


def size_form(name="size"):
    wrong = [(value, (e.BadNumber, name)) for value in NOT_INTEGERS + (0, -1, 13, 10 ** 30)]
    return Form(wrong)


def number_form(name, *more):
    return Form([(value, (e.BadNumber, name)) for value in NOT_INTEGERS + more])


def place_form(name, size=4):
    return Form([(value, (e.BadPlace, name)) for value in NOT_INTEGERS + (-1, size, 10 ** 30)])


def maybe_place_form(name, size):
    wrong = [value for value in NOT_INTEGERS + (-1, size) if value is not None]
    return Form([(value, (e.BadPlace, name)) for value in wrong])


def tie_form(name="tie", many=5):
    return Form([(value, (e.BadTie, name)) for value in NOT_INTEGERS + (-1, many, 10 ** 30)])


def lot_form(size=4):
    wrong = [(value, (e.BadLot, -1)) for value in NOT_ROWS]
    wrong += [([value], (e.BadLot, 0)) for value in NOT_INTEGERS + (-1,)]
    wrong += [((0, value), (e.BadLot, 1)) for value in NOT_INTEGERS + (-1, 0)]
    wrong += [([2, 0, 1, 0, -1], (e.BadLot, 3)), ((-1, 1, 1), (e.BadLot, 0)), ([1, 1, -1], (e.BadLot, 1))]
    if size is not None:
        wrong += [([size], (e.BadLot, 0)), ((0, size, 0), (e.BadLot, 1)), ([size, size], (e.BadLot, 0))]
    return Form(wrong)


def ties_form(many=5):
    """As a lot, with the error for ties."""
    return Form([(value, (e.BadTies, error[1])) for value, error in lot_form(many).wrong])


def pair_form(size=4):
    wrong = [(value, (e.BadPlace, "pair")) for value in NOT_ROWS + ([], [0], (0, 1, 2), [0, size], [-1, 1])]
    wrong += [([0, value], (e.BadPlace, "pair")) for value in NOT_INTEGERS]
    return Form(wrong + [((value, 1), (e.BadPlace, "pair")) for value in NOT_INTEGERS])


def family_form(*others, many=4):
    """Families over another number of ties than the net has."""
    ones = (1,) * many
    others = others or (Told(ones), Listed(ones + (2, 2)), Stretches([]), Losses(ones, 1), Moves(ones, 1),
                        Told(ones) | Losses(ones, 0))
    return Form([(family, (e.OtherSize, family.many)) for family in others])


def stretches_form():
    return family_form(Stretches([]), Stretches([(1, 2)] * 4), Stretches([(0, 0)] * 6))


def any_world_form():
    """A world of which any length is right."""
    wrong = [(value, (e.BadWorld, -1)) for value in NOT_ROWS]
    for entry in NOT_INTEGERS + (-1,):
        wrong += [([entry], (e.BadWorld, 0)), ((1, entry, None), (e.BadWorld, 1)), ([0, 1, entry], (e.BadWorld, 2))]
    return Form(wrong)


def entries_form(error, many, *wrong_entries):
    wrong = [(value, (error, -1)) for value in NOT_ROWS]
    wrong += [([1] * (many - 1), (error, -1)), ((1,) * (many + 1), (error, -1)), ([], (error, -1))]
    wrong += [(["1"] * (many + 1), (error, -1))]
    for entry in wrong_entries:
        wrong += [([entry] + [1] * (many - 1), (error, 0)), ((1,) * (many - 1) + (entry,), (error, many - 1))]
        wrong += [([1, entry] + [None] * (many - 2), (error, 1))]
    return Form(wrong)


def world_form(many=5):
    return entries_form(e.BadWorld, many, -1, *NOT_INTEGERS)


def row_form(many=5):
    return entries_form(e.BadRow, many, *NOT_INTEGERS)


def no_form():
    return Form([])


class Ask:
    """A call; later lists, in order, changed arguments by index and the error due then.

    last lists the same for what is due behind TooMany; twoway tells that the net, the argument 0,
    must be two-way. big tells arguments by index that are too great by just one place, most such
    that are just not too great; without it the one argument of big is made smaller.
    """

    def __init__(self, name, call, *arguments, later=(), last=(), big=None, most=None, limit=9, twoway=False):
        self.name = name
        self.call = call
        self.good = [value for value, _ in arguments]
        self.forms = [form for _, form in arguments]
        self.later = list(later)
        self.last = list(last)
        self.twoway = twoway
        self.big = big
        self.most = most
        self.limit = limit


def listed(function):
    """The function with the items of its generator in a list."""
    return lambda *arguments: list(function(*arguments))


def held_later(at, name="holders"):
    """What is wrong with holders and lot at the indexes at and at + 1."""
    return [
        ({at: ()}, (e.EmptyLot, name)),
        ({at: [3, 1, 2], at + 1: [0, 2]}, (e.NotInside, 1)),
        ({at: [3, 1], at + 1: []}, (e.NotInside, 1)),
    ]


def ends_later(at, names=("sources", "sinks")):
    """What is wrong with sources and sinks at the indexes at and at + 1."""
    return [
        ({at: []}, (e.EmptyLot, names[0])),
        ({at + 1: ()}, (e.EmptyLot, names[1])),
        ({at: [3, 2, 1], at + 1: [3, 0, 2]}, (e.Meeting, 2)),
    ]


def lot_later(at, name="lot"):
    """What is wrong with a lot at the index at that must have a place."""
    return [({at: []}, (e.EmptyLot, name)), ({at: ()}, (e.EmptyLot, name))]


def side_later(at):
    """What is wrong with a lot at the index at that must be a side."""
    return [({at: []}, (e.NotASide,)), ({at: [3, 0, 1, 2]}, (e.NotASide,))]


def same_later(at, other):
    """What is wrong with two places at the indexes at and other that must differ."""
    return [({at: 2, other: 2}, (e.SamePlace, 2)), ({at: 0, other: 0}, (e.SamePlace, 0))]


def three_later(at):
    """What is wrong with three places from the index at on that must differ."""
    return [
        ({at: 1, at + 1: 1}, (e.SamePlace, 1)),
        ({at: 2, at + 2: 2}, (e.SamePlace, 2)),
        ({at + 1: 3, at + 2: 3}, (e.SamePlace, 3)),
        ({at: 3, at + 1: 3, at + 2: 3}, (e.SamePlace, 3)),
    ]
