"""Trees over the places of a net, and the list of all trees."""

from leastgates.checks import MOST_PLACES, good_lot, good_place, good_size, good_world, is_index, is_pair, is_row
from leastgates.checks import need_listed, need_tree
from leastgates.costs import amount
from leastgates.errors import BadLot, BadNumber, BadTree
from leastgates.lots import parts
from leastgates.nets import check_twoway

MOST_IN_ALL_TREES = 6


class Tree:
    """A set of edges that joins all places, one less than there are places."""

    def __init__(self, size, edges):
        self.size = good_size(size)
        self.edges = good_edges(size, edges)
        self._sides = tuple([side_of(size, self.edges, at) for at in range(size - 1)])

    @staticmethod
    def joins(size, edges):
        """True if the pairs join all places."""
        good_size(size)
        if not is_row(edges):
            raise BadTree(-1)
        labels = list(range(size))
        for at, pair in enumerate(edges):
            if not is_pair(size, pair):
                raise BadTree(at)
            labels = joined_labels(labels, pair)
        return len(set(labels)) == 1

    @classmethod
    def star(cls, size, centre):
        """The tree in which the centre is a neighbour of all other places."""
        good_size(size)
        good_place("centre", size, centre)
        return cls(size, [(centre, place) for place in range(size) if place != centre])

    @classmethod
    def chain(cls, order):
        """The tree in which each place in the order is a neighbour of the next one."""
        if not is_row(order) or not 1 <= len(order) <= MOST_PLACES:
            raise BadLot(-1)
        good_lot(len(order), order)
        return cls(len(order), [(order[at], order[at + 1]) for at in range(len(order) - 1)])

    def side(self, at):
        """The places on the side of the lesser end of the edge."""
        if not is_index(at, len(self.edges)):
            raise BadNumber("at")
        return self._sides[at]

    def way(self, one, other):
        """The numbers of the edges between two places."""
        good_place("one", self.size, one)
        good_place("other", self.size, other)
        return tuple([at for at, side in enumerate(self._sides) if parts(side, one, other)])

    def dist(self, one, other):
        """How many edges are between two places."""
        return len(self.way(one, other))

    def neighbours(self, one, other):
        """True if the two places are the ends of an edge."""
        return self.dist(one, other) == 1

    def costs(self, net, world):
        """What the sides of the edges cost, edge by edge."""
        capacities = good_world_of(self, net, world)
        return tuple([amount(capacities, net.gates(side)) for side in self._sides])

    def total(self, net, world):
        """What all sides cost together."""
        return sum(self.costs(net, world))

    def __eq__(self, other):
        return isinstance(other, Tree) and self.size == other.size and self.edges == other.edges

    def __len__(self):
        return len(self.edges)

    def __iter__(self):
        return iter(self.edges)


def all_trees(size):
    """A generator of all trees over so many places, in order."""
    good_size(size)
    need_listed(size, MOST_IN_ALL_TREES)
    for edges in forests(size, size - 1):
        yield Tree(size, edges)


def good_world_of(tree, net, world):
    """The world of a two-way net over the places of the tree."""
    check_twoway(net)
    need_tree(net, tree)
    return good_world(net.many, world)


# What is joined already is told by labels, one for each place: places with equal labels are joined.

def joined_labels(labels, pair):
    """The labels behind joining the two places."""
    one, other = pair
    return [labels[one] if label == labels[other] else label for label in labels]


def good_edges(size, edges):
    """The edges of a tree over so many places, ascending."""
    if not is_row(edges) or len(edges) != size - 1:
        raise BadTree(-1)
    labels = list(range(size))
    for at, pair in enumerate(edges):
        if not is_pair(size, pair) or labels[pair[0]] == labels[pair[1]]:
            raise BadTree(at)
        labels = joined_labels(labels, pair)
    return tuple(sorted([tuple(sorted(pair)) for pair in edges]))


def side_of(size, edges, at):
    """The lot of the first end of an edge and of all places that the other edges join to it."""
    labels = list(range(size))
    for edge in edges[:at] + edges[at + 1:]:
        labels = joined_labels(labels, edge)
    return tuple([place for place in range(size) if labels[place] == labels[edges[at][0]]])


def forests(size, many):
    """The tuples of so many ascending edges that join no place to itself, in order."""
    pairs = [(p, q) for p in range(size) for q in range(p + 1, size)]
    # Each row: the edges taken, the labels of the places, and the pairs that may still follow.
    rows = [((), list(range(size)), pairs)]
    for _ in range(many):
        rows = [grown for row in rows for grown in forests_above(row)]
    return [edges for edges, _, _ in rows]


def forests_above(row):
    """The rows with one edge more, behind those that the row has."""
    edges, labels, pairs = row
    found = []
    for at, pair in enumerate(pairs):
        if labels[pair[0]] != labels[pair[1]]:
            found.append((edges + (pair,), joined_labels(labels, pair), pairs[at + 1:]))
    return found
