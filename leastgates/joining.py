"""Held lots, which join to held lots."""

from leastgates.checks import good_lot, good_world
from leastgates.errors import NotHeld, OtherKind
from leastgates.fillings import filling_of
from leastgates.holding import breaking_lot
from leastgates.lots import both, minus


def joined(one_holders, one_lot, other_holders, other_lot):
    """Holders of the union of two held lots, and this union; nothing is checked."""
    return both(one_holders, minus(other_holders, one_lot)), both(one_lot, other_lot)


class Held:
    """A lot of a net that some of its places hold in a world."""

    def __init__(self, net, world, holders, lot):
        cheaper = breaking_lot(net, world, holders, lot)
        if cheaper is not None:
            raise NotHeld(cheaper)
        self.net = net
        self.world = good_world(net.many, world)
        self.holders = good_lot(net.size, holders)
        self.lot = good_lot(net.size, lot)

    @property
    def row(self):
        """A filling of the lot from its holders."""
        return filling_of(self.net, self.world, self.holders, self.lot)

    def __add__(self, other):
        if not isinstance(other, Held):
            return NotImplemented
        if self.net != other.net or self.world != other.world:
            raise OtherKind()
        holders, lot = joined(self.holders, self.lot, other.holders, other.lot)
        return Held(self.net, self.world, holders, lot)

    def __eq__(self, other):
        if not isinstance(other, Held) or self.net != other.net or self.world != other.world:
            return False
        return self.holders == other.holders and self.lot == other.lot

    def lies_in(self, other):
        """True if the lot of this one lies in the lot of the other one."""
        return minus(self.lot, other.lot) == ()
