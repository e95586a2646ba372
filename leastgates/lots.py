"""Lots of places: their sums, what they have in common, and lists of them by size."""

from leastgates.checks import good_lot, good_place, good_size, need_inside, need_listed


def lot_of(size, places):
    """The lot of the given places."""
    return good_lot(good_size(size), places)


def both(one, other):
    """What is in one lot or in the other."""
    return tuple(sorted(set(one) | set(other)))


def common(one, other):
    """What is in both lots."""
    return tuple([place for place in sorted(one) if place in other])


def minus(one, other):
    """What is in the first lot and not in the other one."""
    return tuple([place for place in sorted(one) if place not in other])


def rest(size, lot):
    """All other places."""
    return tuple([place for place in range(size) if place not in lot])


def parts(lot, one, other):
    """True if the lot has just one of two places."""
    return (one in lot) != (other in lot)


def by_size(lots):
    """The lots in a new list: those with fewer places first, equally many in the order of tuples."""
    return sorted(lots, key=lambda lot: (len(lot), lot))


def lots_inside(inner, outer):
    """The list of all lots between an inner lot and an outer one, by size; nothing is checked."""
    found = [inner]
    for place in minus(outer, inner):
        found = found + [both(lot, (place,)) for lot in found]
    return by_size(found)


def all_sides(size, *, with_place=None):
    """A generator of all sides, by size; only those with the place, if one is given."""
    good_size(size)
    if with_place is not None:
        good_place("with_place", size, with_place)
    need_listed(size)
    for lot in lots_inside((), tuple(range(size))):
        if 0 < len(lot) < size and (with_place is None or with_place in lot):
            yield lot


def lots_between(inner, outer):
    """A generator of all lots in which inner lies and that lie in outer, by size."""
    inner_lot = good_lot(None, inner)
    outer_lot = good_lot(None, outer)
    need_inside(inner_lot, outer_lot)
    need_listed(len(outer_lot))
    for lot in lots_inside(inner_lot, outer_lot):
        yield lot


def corners(size, one, other):
    """The four corners of two lots."""
    good_size(size)
    one_lot = good_lot(size, one)
    other_lot = good_lot(size, other)
    outside = rest(size, both(one_lot, other_lot))
    return common(one_lot, other_lot), minus(one_lot, other_lot), minus(other_lot, one_lot), outside


def crosses(size, one, other):
    """True if no corner of two lots is empty."""
    return all([len(corner) > 0 for corner in corners(size, one, other)])
