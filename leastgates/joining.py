"""Held lots, which join to held lots."""

from leastgates.errors import OtherKind
from leastgates.fillings import filling_of
from leastgates.holding import good_held, need_held, need_holding
from leastgates.lots import both, minus


def joined(one_holders, one_lot, other_holders, other_lot):
    """Holders of the union of two held lots, and this union; nothing is checked."""
    return both(one_holders, minus(other_holders, one_lot)), both(one_lot, other_lot)


class Held:
    """A lot of a net that some of its places hold in a world."""

    def __init__(self, net, world, holders, lot):
        capacities, places, whole = good_held(net, world, holders, lot)
        need_held(places, whole)
        need_holding(net, capacities, places, whole)
        self.net = net
        self.world = capacities
        self.holders = places
        self.lot = whole

    @property
    def row(self):
        """A filling of the lot from its holders."""
        return filling_of(self.net, self.world, self.holders, self.lot)

    def __add__(self, other):
        if not isinstance(other, Held):
            return NotImplemented
        if self.net != other.net or self.world != other.world:
            raise OtherKind()
        holders, lot = joined(self.holders, self.lot, other.holders, other.lot)
        return Held(self.net, self.world, holders, lot)

    def __eq__(self, other):
        if not isinstance(other, Held) or self.net != other.net or self.world != other.world:
            return False
        return self.holders == other.holders and self.lot == other.lot

    def lies_in(self, other):
        """True if the lot of this one lies in the lot of the other one."""
        return minus(self.lot, other.lot) == ()
