"""Groves: trees of lots whose sides serve pairs of places in all worlds of a family."""

from leastgates.checks import good_place, is_index, is_pair, is_row, need_family, need_listed, need_two, wrong_member
from leastgates.errors import BadLot, BadNumber, BadTable, NotServing
from leastgates.lots import both, rest
from leastgates.nets import check_twoway
from leastgates.serving import pairs_of, served_of, settled_of
from leastgates.trees import Tree


class Grove:
    """A tree whose nodes are lots; the side of each edge serves the two posts of the edge."""

    def __init__(self, net, family, lots, edges, posts):
        check_twoway(net)
        need_family(net, family)
        places = good_parts(net.size, lots)
        shape = Tree(len(places), edges)
        need_posts(net.size, places, edges, posts)
        need_listed(net.size)
        told = [told_edge(places, pair, ends) for pair, ends in zip(edges, posts)]
        rows = sorted([(pair, ends) for pair, ends, _ in told])
        self.net = net
        self.family = family
        self.lots = tuple(sorted(places))
        self.edges = tuple([pair for pair, _ in rows])
        self.posts = tuple([ends for _, ends in rows])
        self._tree = Tree(len(shape) + 1, self.edges)
        self._sides = tuple([places_of(self.lots, self._tree.side(at)) for at in range(len(shape))])
        self._boxes = tuple([served_of(net, family, side) for side in self._sides])
        need_serving_posts(self, told)

    @property
    def many(self):
        """The number of edges."""
        return len(self.edges)

    def side(self, at):
        """All places on the side of the lesser lot of the edge."""
        if not is_index(at, len(self.edges)):
            raise BadNumber("at")
        return self._sides[at]

    def side_list(self):
        """The list of the sides of all edges."""
        return list(self._sides)

    def lot_at(self, place):
        """The number of the lot that has the place."""
        good_place("place", self.net.size, place)
        return [place in lot for lot in self.lots].index(True)

    def way(self, one, other):
        """The numbers of the edges between the lots of two places."""
        good_place("one", self.net.size, one)
        good_place("other", self.net.size, other)
        return self._tree.way(self.lot_at(one), self.lot_at(other))

    def serving(self, one, other):
        """The least number of an edge on the way whose side serves the two places, None if there is none."""
        way = self.way(one, other)
        need_two(one, other)
        for at in way:
            if is_in_box(self._boxes[at], one, other):
                return at
        return None

    def next_pair(self):
        """The least settled pair within one lot, None if there is none."""
        inside = [(p, q) for p, q in pairs_of(self.net) if self.lot_at(p) == self.lot_at(q)]
        found = settled_of(self.net, self.family, inside)
        return found[0] if found else None

    def is_full(self):
        """True if no lot has two settled places."""
        return self.next_pair() is None

    def told_pairs(self):
        """A generator of all pairs that some side on the way serves, ascending."""
        for p, q in pairs_of(self.net):
            if self.serving(p, q) is not None:
                yield p, q

    def words(self):
        """A line for each edge: its two lots and its posts; the places of the lot if there is no edge."""
        if not self.edges:
            return words_of(self.lots[0]) + "\n"
        lines = [f"{words_of(self.lots[i])} - {words_of(self.lots[j])} : {words_of(ends)}\n"
                 for (i, j), ends in zip(self.edges, self.posts)]
        return "".join(lines)

    def __len__(self):
        return len(self.lots)

    def __iter__(self):
        return iter(self.lots)


def good_parts(size, lots):
    """The lots, each ascending, in the order as passed: each place is in just one of them."""
    if not is_row(lots):
        raise BadLot(-1)
    found = ()
    for at, lot in enumerate(lots):
        if wrong_member(size, lot) is not None or not lot or any([place in found for place in lot]):
            raise BadLot(at)
        found = found + tuple(lot)
    if len(found) < size:
        raise BadLot(-1)
    return [tuple(sorted(lot)) for lot in lots]


def need_posts(size, lots, edges, posts):
    """For each edge a post in each of its two lots."""
    if not is_row(posts) or len(posts) != len(edges):
        raise BadTable(-1)
    for at, ends in enumerate(posts):
        first, second = edges[at]
        if not is_pair(size, ends) or ends[0] not in lots[first] or ends[1] not in lots[second]:
            raise BadTable(at)


def told_edge(lots, pair, ends):
    """An edge with its new numbers and its posts, the lesser lot first, and if the two lots stood so before."""
    numbers = sorted(lots)
    first, second = [numbers.index(lots[at]) for at in pair]
    one, other = ends
    if first < second:
        return (first, second), (one, other), True
    return (second, first), (other, one), False


def need_serving_posts(grove, told):
    """The side of each edge, as passed, serves its posts."""
    for pair, ends, in_order in told:
        at = grove.edges.index(pair)
        one, other = ends
        if not is_in_box(grove._boxes[at], one, other):
            side = grove.side(at)
            raise NotServing(side if in_order else rest(grove.net.size, side))


def is_in_box(box, one, other):
    """True if a side with these always-holders here and there serves the two places."""
    here, there = box
    return one in here and other in there or other in here and one in there


def places_of(lots, numbers):
    """All places of the lots with these numbers."""
    found = ()
    for number in numbers:
        found = both(found, lots[number])
    return found


def words_of(places):
    """The places, separated by blanks."""
    return " ".join([str(place) for place in places])
