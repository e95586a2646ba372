"""Two-way nets in which what is far off is shrunk, and the pairs that stay settled there."""

from leastgates.checks import good_lot, is_row, need_listed, need_side
from leastgates.errors import BadTable
from leastgates.lots import minus, rest
from leastgates.nets import check_twoway
from leastgates.serving import pairs_settled
from leastgates.shapes import shrunk
from leastgates.solid import good_solid_ask


def far_shrunk(net, side):
    """The net with all places outside the side as one."""
    check_twoway(net)
    lot = good_lot(net.size, side)
    need_side(net.size, lot)
    need_listed(net.size)
    return shrunk(net, rest(net.size, lot))


def near_pairs(net, family, lot):
    """The ascending list of the settled pairs outside the lot."""
    whole = good_solid_ask(net, family, lot)
    return [pair for pair in pairs_settled(net, family) if minus(pair, whole) == pair]


def pairs_behind(net, family, lot):
    """The ascending list of the pairs outside the lot that are settled where the lot is shrunk."""
    whole = good_solid_ask(net, family, lot)
    outside = rest(net.size, whole)
    found = pairs_settled(shrunk(net, whole), family)
    return [(outside[p], outside[q]) for p, q in found if q < len(outside)]


def shrink_row(net, rows):
    """The list of the net and of what it becomes as lot by lot is shrunk."""
    check_twoway(net)
    if not is_row(rows):
        raise BadTable(-1)
    need_listed(net.size)
    found = [net]
    for row in rows:
        found.append(shrunk(found[-1], row))
    return found
