"""Trees and groves for the tests: all trees by a counting of edges, and what counting tells of their sides.

Nothing here uses the package to find an answer.
"""

from functools import lru_cache
from itertools import combinations
from random import Random

from leastgates.nets import Twoway
from tests.support import counted_cost, lots_from, parts_pair, rest_of, small_cases, subsets
from tests.worlds import KINDS, Counted, counted_worlds, family_cases, random_family

MOST = 10 ** 30


def reached(size, edges, place):
    """All places that the edges join to a place."""
    found = {place}
    while True:
        more = {b for edge in edges for a, b in (edge, edge[::-1]) if a in found} - found
        if not more:
            return tuple(sorted(found))
        found |= more


def joins(size, edges):
    return len(reached(size, edges, 0)) == size


@lru_cache(maxsize=None)
def counted_trees(size):
    """The edges of all trees, in order."""
    pairs = list(combinations(range(size), 2))
    return [edges for edges in combinations(pairs, size - 1) if joins(size, edges)]


@lru_cache(maxsize=None)
def counted_side(size, edges, at):
    others = [edge for number, edge in enumerate(edges) if number != at]
    return reached(size, others, edges[at][0])


def counted_sides(size, edges):
    return [counted_side(size, edges, at) for at in range(len(edges))]


def counted_way(size, edges, one, other):
    return tuple(at for at in range(len(edges)) if parts_pair(counted_side(size, edges, at), one, other))


def random_edges(random, size):
    """The edges of some tree, each place but the first joined to one ahead of it, renamed."""
    names = random.sample(range(size), size)
    return [(names[at], names[random.randrange(at)]) for at in range(1, size)]


def told_edges(edges):
    """The edges as a Tree tells them."""
    return tuple(sorted(tuple(sorted(edge)) for edge in edges))


def two_cases(seed, count, **more):
    """As small_cases, two-way nets alone."""
    return [case for case in small_cases(seed, 2 * count, **more) if isinstance(case[0], Twoway)]


class Wood:
    """A two-way net in a world: all costs, all flows between two places, and what all trees cost."""

    def __init__(self, net, world):
        self.net = net
        self.world = tuple(world)
        self.size = net.size
        self.costs = {lot: counted_cost(net, world, lot) for lot in subsets(range(net.size))}
        self.pairs = list(combinations(range(net.size), 2))
        self.flows = {pair: self.counted(*pair) for pair in self.pairs}

    def fit(self, one, other):
        return lots_from((one,), rest_of(self.size, (other,)))

    def counted(self, one, other):
        return min(self.costs[lot] for lot in self.fit(one, other))

    def flow(self, one, other):
        return self.flows[min(one, other), max(one, other)]

    def tree_costs(self, edges):
        return [self.costs[side] for side in counted_sides(self.size, edges)]

    def total(self, edges):
        return sum(self.tree_costs(edges))

    def first_wrong(self, edges):
        """The first edge whose side is not least, None for a cut tree."""
        for at, (edge, cost) in enumerate(zip(edges, self.tree_costs(edges))):
            if cost != self.flows[edge]:
                return at
        return None

    def trees(self):
        """The edges of all cut trees, in order."""
        return [edges for edges in counted_trees(self.size) if self.first_wrong(edges) is None]

    def least(self):
        return min(self.total(edges) for edges in counted_trees(self.size))

    def classes(self, level):
        found = []
        for place in range(self.size):
            if not any(place in lot for lot in found):
                found.append(tuple(p for p in range(self.size) if p == place or self.flow(p, place) >= level))
        return found


def serves_two(counted, lot, one, other):
    """True if the lot parts the two places and serves them, by counting: counted is a Counted."""
    if not parts_pair(lot, one, other):
        return False
    inside, outside = (one, other) if one in lot else (other, one)
    return lot in kept_serving(counted, inside, outside)


def kept_serving(counted, one, other):
    """The sides that serve two places, found once for each Counted."""
    kept = vars(counted).setdefault("kept", {})
    if (one, other) not in kept:
        kept[one, other] = counted.serving((one,), (other,))
    return kept[one, other]


def settled_two(counted):
    """The settled pairs p < q, by counting."""
    return [(p, q) for p, q in combinations(range(counted.size), 2) if kept_serving(counted, p, q)]


def one_trees(net, worlds):
    """The edges of all trees that are cut trees in each world, in order."""
    woods = [Wood(net, world) for world in worlds]
    found = counted_trees(net.size)
    for wood in woods:
        found = [edges for edges in found if wood.first_wrong(edges) is None]
    return found


def two_families(seed, count, **more):
    """As family_cases, for two-way nets; with a Counted behind the worlds."""
    cases = family_cases(seed, count, kinds=(Twoway,), **more)
    return [(net, family, worlds, Counted(net, worlds)) for net, family, worlds in cases]


def same_bipartition(size, one, other):
    return one in (other, rest_of(size, other))


def crossing(size, one, other):
    """True if the two lots cross or part the places alike."""
    corners = [set(one) & set(other), set(one) - set(other), set(other) - set(one),
               set(range(size)) - set(one) - set(other)]
    return all(corners) or same_bipartition(size, tuple(one), tuple(other))


def grove_side(lots, edges, at, number):
    """All places of the lot with this number and of the lots that the edges but one join to it."""
    others = [edge for other, edge in enumerate(edges) if other != at]
    return tuple(sorted(p for lot in reached(len(lots), others, number) for p in lots[lot]))


def grove_way(lots, edges, one, other):
    """The numbers of the edges between the lots of two places."""
    return tuple(at for at, (i, _) in enumerate(edges) if parts_pair(grove_side(lots, edges, at, i), one, other))


def random_lots(random, size, many):
    """So many lots, each with a place, such that each place is in just one of them, in any order."""
    names = random.sample(range(size), size)
    lots = [[place] for place in names[:many]]
    for place in names[many:]:
        random.choice(lots).append(place)
    return lots


def narrowed_families(random, family, worlds):
    """Some families each world of which is a world of the family."""
    from leastgates.changes import Losses, Moves
    from leastgates.families import Listed, Told
    from leastgates.stretches import Stretches
    found = [Told(random.choice(worlds)), Listed(*random.sample(worlds, min(3, len(worlds))))]
    if isinstance(family, Stretches):
        pairs = []
        for low, high in family.pairs:
            least = random.randint(low, high)
            pairs.append((least, random.randint(least, high)))
        found.append(Stretches(pairs))
    if isinstance(family, Losses) and family.number:
        found.append(Losses(family.world, family.number - 1))
    if isinstance(family, Moves) and family.change:
        found.append(Moves(family.world, family.change - 1))
    if family.WORD == "either":
        found += [family.one, family.other]
    return found


def web_families(seed, count, least=3, most=4, more=2, top=4):
    """As two_families, with nets that hold a ring of all places and some ties more."""
    random = Random(seed)
    found = []
    for word in KINDS * count:
        size = random.randint(least, most)
        order = random.sample(range(size), size)
        ties = [(order[at - 1], order[at]) for at in range(size)]
        ties += [(random.randrange(size), random.randrange(size)) for _ in range(random.randint(0, more))]
        random.shuffle(ties)
        net = Twoway(size, ties)
        family = random_family(random, net.many, word, top)
        worlds = counted_worlds(family)
        found.append((net, family, worlds, Counted(net, worlds)))
    return found
