"""Sides that are least in all worlds of a family, and the pairs of places that they serve."""

from leastgates.always import always_singles, broken_of
from leastgates.checks import good_lot, good_place, good_two_lots, need_apart, need_family, need_filled, need_inside
from leastgates.checks import need_listed, need_side, need_two
from leastgates.leasts import fits, last_of, least_lots
from leastgates.lots import rest


def serves(net, family, holders, sinks, side):
    """True if the side serves the holders and the sinks."""
    places, ends, lot = good_ask_of_side(net, family, holders, sinks, side)
    need_listed(net.size)
    return serves_of(net, family, places, ends, lot)


def served(net, family, side):
    """The always-holders of the side here, and those of the other places there."""
    need_family(net, family)
    lot = good_lot(net.size, side)
    need_side(net.size, lot)
    need_listed(net.size)
    return served_of(net, family, lot)


def is_serving(net, family, side):
    """True if the side serves some pair of places."""
    here, there = served(net, family, side)
    return len(here) > 0 and len(there) > 0


def cheaper(net, family, holders, sinks, side):
    """A world and a fit side that is cheaper in it, None if the fit side serves."""
    places, ends, lot = good_fit_ask(net, family, holders, sinks, side)
    return cheaper_of(net, family, places, ends, lot)


def serving_side(net, family, holders, sinks):
    """The last serving side, None if there is none."""
    places, ends = good_pair_ask(net, family, holders, sinks)
    return serving_of(net, family, places, ends)


def serving_sides(net, family, holders, sinks):
    """The list of all serving sides, by size."""
    places, ends = good_pair_ask(net, family, holders, sinks)
    if serving_of(net, family, places, ends) is None:
        return []
    # If one least side of the middle serves, all of them do, and no other side.
    return least_lots(net, family.middle(), places, ends)


def settled(net, family, one, other):
    """True if some side serves the two places."""
    need_family(net, family)
    good_place("one", net.size, one)
    good_place("other", net.size, other)
    need_two(one, other)
    need_listed(net.size)
    return serving_of(net, family, (one,), (other,)) is not None


def settled_pairs(net, family):
    """The ascending list of all settled pairs of places."""
    need_family(net, family)
    need_listed(net.size)
    return pairs_settled(net, family)


class Judge:
    """Tells the last serving side of each two places, and works it out once."""

    def __init__(self, net, family):
        need_family(net, family)
        need_listed(net.size)
        self.net = net
        self.family = family
        self._kept = {}

    def __call__(self, p, q):
        good_place("p", self.net.size, p)
        good_place("q", self.net.size, q)
        need_two(p, q)
        if (p, q) not in self._kept:
            self._kept[p, q] = serving_of(self.net, self.family, (p,), (q,))
        return self._kept[p, q]


def need_parties(holders, sinks):
    """Neither lot is empty, and no place is in both."""
    need_filled("holders", holders)
    need_filled("sinks", sinks)
    need_apart(holders, sinks)


def good_pair_ask(net, family, holders, sinks):
    """Holders and sinks, where no further argument has a form."""
    places, ends = good_two_lots(net, family, holders, sinks)
    need_parties(places, ends)
    need_listed(net.size)
    return places, ends


def good_ask_of_side(net, family, holders, sinks, side):
    """Holders, sinks and a lot that need not be a fit side."""
    places, ends = good_two_lots(net, family, holders, sinks)
    lot = good_lot(net.size, side)
    need_parties(places, ends)
    return places, ends, lot


def good_fit_ask(net, family, holders, sinks, side):
    """Holders, sinks and a side that must be fit for them, in a net that is not too great."""
    places, ends, lot = good_ask_of_side(net, family, holders, sinks, side)
    need_side(net.size, lot)
    need_inside(places, lot)
    need_apart(lot, ends)
    need_listed(net.size)
    return places, ends, lot


def serves_of(net, family, holders, sinks, lot):
    """True if the lot is fit and serves; nothing is checked."""
    return fits(holders, sinks, lot) and cheaper_of(net, family, holders, sinks, lot) is None


def cheaper_of(net, family, holders, sinks, lot):
    """A world and a cheaper fit side, None if the fit side serves; nothing is checked."""
    here = broken_of(net, family, holders, lot)
    if here is not None:
        return here
    there = broken_of(~net, family, sinks, rest(net.size, lot))
    if there is None:
        return None
    world, beyond = there
    return world, rest(net.size, beyond)


def served_of(net, family, lot):
    """The always-holders here and there; nothing is checked."""
    here = always_singles(net, family, lot)
    return here, always_singles(~net, family, rest(net.size, lot))


def serving_of(net, family, holders, sinks):
    """The last serving side, None if there is none; nothing is checked."""
    lot = last_of(net, family.middle(), holders, sinks)
    if cheaper_of(net, family, holders, sinks, lot) is None:
        return lot
    return None


def pairs_settled(net, family):
    """The ascending list of all settled pairs; nothing is checked."""
    return settled_of(net, family, pairs_of(net))


def settled_of(net, family, pairs):
    """The list of those of the pairs that are settled; nothing is checked."""
    middle = family.middle()
    boxes = {}
    found = []
    for p, q in pairs:
        lot = last_of(net, middle, (p,), (q,))
        # Many pairs have the same last least side, so what it serves is worked out once.
        if lot not in boxes:
            boxes[lot] = served_of(net, family, lot)
        here, there = boxes[lot]
        if p in here and q in there:
            found.append((p, q))
    return found


def pairs_of(net):
    """All pairs of two places, ascending; in a two-way net only those with the lesser place first."""
    both_ways = net.KIND == "oneway"
    return [(p, q) for p in range(net.size) for q in range(net.size) if p < q or p > q and both_ways]
