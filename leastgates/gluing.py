"""Rows glued from two rows at a side, and parted there."""

from leastgates.checks import good_lot, good_row, need_side
from leastgates.errors import NotAFilling
from leastgates.fillings import kept_at
from leastgates.lots import rest


def glue(net, lot, here, there):
    """The row with the entries of here at the side and those of there beyond it."""
    side = good_lot(net.size, lot)
    inside_row = good_row(net.many, here)
    outside_row = good_row(net.many, there)
    need_side(net.size, side)
    for tie in net.gates(side):
        if inside_row[tie] != outside_row[tie]:
            raise NotAFilling(tie)
    kept = kept_at(net, side, inside_row)
    beyond = net.inner(rest(net.size, side))
    return tuple([outside_row[tie] if tie in beyond else entry for tie, entry in enumerate(kept)])


def parted(net, lot, row):
    """The row's entries on this side of the gates and on the other one, the gates on both."""
    side = good_lot(net.size, lot)
    entries = good_row(net.many, row)
    need_side(net.size, side)
    ahead = kept_at(net, side, entries)
    beyond = net.inner(rest(net.size, side)) + net.gates(side)
    return ahead, tuple([entry if tie in beyond else 0 for tie, entry in enumerate(entries)])
