"""Checks of arguments that all modules share: good_.. by form, need_.. by what lots must be.

Each good_.. function returns the argument as the package keeps it; each check raises the
error that belongs to it.
"""

from leastgates.errors import BadLot, BadNumber, BadPlace, BadRow, BadTie, BadTies, BadWorld
from leastgates.errors import EmptyLot, Meeting, NotASide, NotInside, OtherSize, SamePlace, TooMany

MOST_PLACES = 12
MOST_LISTED = 8


def is_integer(value):
    """True for an integer other than True and False."""
    return isinstance(value, int) and not isinstance(value, bool)


def is_index(value, limit):
    """True for an integer from 0 to limit - 1."""
    return is_integer(value) and 0 <= value < limit


def is_row(value):
    """True for a list or a tuple."""
    return isinstance(value, (list, tuple))


def is_pair(size, value):
    """True for a list or tuple of two places."""
    return is_row(value) and len(value) == 2 and all([is_index(place, size) for place in value])


def first_wrong(flags):
    """The least index at which flags is not True, None if there is none."""
    for at, flag in enumerate(flags):
        if not flag:
            return at
    return None


def good_size(size):
    if not is_integer(size) or not 1 <= size <= MOST_PLACES:
        raise BadNumber("size")
    return size


def good_place(name, size, place):
    if not is_index(place, size):
        raise BadPlace(name)
    return place


def good_tie(name, many, tie):
    if not is_index(tie, many):
        raise BadTie(name)
    return tie


def wrong_member(limit, members):
    """Where a lot or a tie set is wrong, None if it is right; for limit None any integers of at least 0 may stand."""
    if not is_row(members):
        return -1
    for at, member in enumerate(members):
        if not is_integer(member) or member < 0 or member in members[:at]:
            return at
        if limit is not None and member >= limit:
            return at
    return None


def good_lot(size, lot):
    """The lot of a net with so many places; for size None any integers of at least 0 are places."""
    wrong = wrong_member(size, lot)
    if wrong is not None:
        raise BadLot(wrong)
    return tuple(sorted(lot))


def good_ties(many, ties):
    wrong = wrong_member(many, ties)
    if wrong is not None:
        raise BadTies(wrong)
    return tuple(sorted(ties))


def good_apart_ties(many, plus, minus):
    """Two tie sets without a common tie."""
    ups = good_ties(many, plus)
    downs = good_ties(many, minus)
    need_apart(ups, downs)
    return ups, downs


def good_world(many, world):
    """The world over so many ties; for many None any length is right."""
    if not is_row(world) or many is not None and len(world) != many:
        raise BadWorld(-1)
    wrong = first_wrong([is_integer(amount) and amount >= 0 for amount in world])
    if wrong is not None:
        raise BadWorld(wrong)
    return tuple(world)


def good_row(many, row):
    if not is_row(row) or len(row) != many:
        raise BadRow(-1)
    wrong = first_wrong([is_integer(entry) for entry in row])
    if wrong is not None:
        raise BadRow(wrong)
    return tuple(row)


def good_two_lots(net, family, one, other):
    """Two lots of the net, behind the family."""
    need_family(net, family)
    return good_lot(net.size, one), good_lot(net.size, other)


def good_pair(size, pair):
    """Two places; that they differ is asked by need_two."""
    if not is_pair(size, pair):
        raise BadPlace("pair")
    return tuple(pair)


def need_family(net, family):
    """The family is over the ties of the net."""
    if family.many != net.many:
        raise OtherSize(family.many)


def need_tree(net, tree):
    """The tree is over as many places as the net has."""
    if tree.size != net.size:
        raise OtherSize(tree.size)


def need_filled(name, lot):
    """The lot must have a place."""
    if not lot:
        raise EmptyLot(name)


def need_side(size, lot):
    """The lot must be a side."""
    if not 0 < len(lot) < size:
        raise NotASide()


def need_apart(one, other):
    """Two ascending lots must have no place in common."""
    for place in one:
        if place in other:
            raise Meeting(place)


def need_inside(inner, outer):
    """The first of two ascending lots must lie in the other one."""
    for place in inner:
        if place not in outer:
            raise NotInside(place)


def need_two(one, other):
    """Two places must differ."""
    if one == other:
        raise SamePlace(one)


def need_three(p, q, r):
    """Three places must differ."""
    need_two(p, q)
    need_two(p, r)
    need_two(q, r)


def need_listed(size, most=MOST_LISTED):
    """What needs all sides or lots is listed for few places only."""
    if size > most:
        raise TooMany(size)
