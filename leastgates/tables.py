"""Tables of the flows between all places of a two-way net."""

from leastgates.checks import good_place, good_size, good_world, is_integer, is_row, need_three
from leastgates.errors import BadNumber, BadTable
from leastgates.flows import flow_of
from leastgates.nets import Twoway, check_twoway


class FlowTable:
    """The flows between all places in a world."""

    def __init__(self, net, world):
        check_twoway(net)
        self.net = net
        self.world = good_world(net.many, world)
        self._flows = flow_rows(net, self.world)

    def __getitem__(self, at):
        one, other = at
        good_place("one", self.net.size, one)
        good_place("other", self.net.size, other)
        return self._flows[one][other]

    def __iter__(self):
        raise TypeError("a table of flows is not iterated over")

    def numbers(self):
        """The ascending list of the different flows between two places."""
        return sorted(set([number for row in self._flows for number in row if number is not None]))

    def classes(self, level):
        """The lots of places between which at least the number level can be led."""
        if not is_integer(level):
            raise BadNumber("level")
        found = []
        for place, row in enumerate(self._flows):
            lot = tuple([other for other, number in enumerate(row) if other == place or number >= level])
            if lot[0] == place:
                found.append(lot)
        return found


def flow_rows(net, world):
    """For each place the list of its flows to all places, None for the one to itself."""
    rows = [[None] * net.size for _ in range(net.size)]
    for one in range(net.size):
        for other in range(one + 1, net.size):
            number = flow_of(net, world, (one,), (other,))
            rows[one][other] = number
            rows[other][one] = number
    return rows


def lesser_two(table, p, q, r):
    """The number that stands at least twice among the flows between three places."""
    good_place("p", table.net.size, p)
    good_place("q", table.net.size, q)
    good_place("r", table.net.size, r)
    need_three(p, q, r)
    return min(table[p, q], table[q, r], table[p, r])


def net_of_table(size, rows):
    """A two-way net and a world of it in which the flows are as the rows tell."""
    good_size(size)
    if not is_table(size, rows):
        raise BadTable(-1)
    for place in range(size):
        if not agrees_at(size, rows, place):
            raise BadTable(place)
    ties = []
    world = []
    for place in range(1, size):
        # The flows between a place and those ahead of it all follow from the greatest of them.
        flows = [rows[other][place] for other in range(place)]
        ties.append((flows.index(max(flows)), place))
        world.append(max(flows))
    return Twoway(size, ties), tuple(world)


def is_table(size, rows):
    """True for size rows of size entries, with integers of at least 0 above the diagonal."""
    if not is_row(rows) or len(rows) != size:
        return False
    for place, row in enumerate(rows):
        if not is_row(row) or len(row) != size:
            return False
        if not all([is_integer(number) and number >= 0 for number in row[place + 1:]]):
            return False
    return True


def agrees_at(size, rows, place):
    """True if the two lesser numbers are equal for the place with each two greater ones."""
    for other in range(place + 1, size):
        for third in range(other + 1, size):
            numbers = sorted([rows[place][other], rows[place][third], rows[other][third]])
            if numbers[0] != numbers[1]:
                return False
    return True
