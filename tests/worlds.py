"""Small families for the tests, and answers found by counting all their worlds.

The worlds are told here by the words of [46] alone, from the arguments of a family; the package
is used only to make nets and families.
"""

from itertools import combinations, product
from random import Random

from leastgates.changes import Losses, Moves
from leastgates.families import Either, Listed, Told
from leastgates.nets import Oneway, Twoway
from leastgates.stretches import Stretches
from tests.support import counted_cost, lots_from, random_net, rest_of, subsets

KINDS = ("told", "listed", "stretches", "losses", "moves", "either")


def counted_worlds(family):
    """All worlds, ascending, each once."""
    return sorted(set(told_worlds(family)))


def told_worlds(family):
    if isinstance(family, Told):
        return [family.world]
    if isinstance(family, Listed):
        return list(family.choices)
    if isinstance(family, Stretches):
        return list(product(*[range(low, high + 1) for low, high in family.pairs]))
    if isinstance(family, Losses):
        return lost_worlds(family.world, family.number)
    if isinstance(family, Moves):
        return moved_worlds(family.world, family.change)
    return told_worlds(family.one) + told_worlds(family.other)


def lost_worlds(world, number):
    found = []
    for many in range(min(number, len(world)) + 1):
        for lost in combinations(range(len(world)), many):
            found.append(tuple(0 if tie in lost else u for tie, u in enumerate(world)))
    return found


def moved_worlds(world, change):
    ranges = [range(max(0, u - change), u + change + 1) for u in world]
    return [v for v in product(*ranges) if sum(abs(a - b) for a, b in zip(v, world)) <= change]


def counted_middle(family):
    """MIDDLE by the words of [54]."""
    if isinstance(family, (Told, Losses)):
        return family.world
    if isinstance(family, Listed):
        return tuple(sum(world[tie] for world in family.choices) for tie in range(len(family.choices[0])))
    if isinstance(family, Stretches):
        return tuple(low + high for low, high in family.pairs)
    if isinstance(family, Moves):
        if family.change == 0:
            return family.world
        c = 1 + len(family.world) + sum(1 for u in family.world if u > 0)
        return tuple(c * u if u > 0 else 1 for u in family.world)
    return tuple(a + b for a, b in zip(counted_middle(family.one), counted_middle(family.other)))


def random_world(random, many, top=3):
    return tuple(random.randint(0, top) for _ in range(many))


def random_family(random, many, word, top=3):
    """A family of the kind with few worlds."""
    world = random_world(random, many, top)
    if word == "told":
        return Told(world)
    if word == "listed":
        return Listed(world, *[random_world(random, many, top) for _ in range(random.randint(0, 2))])
    if word == "stretches":
        return random_stretches(random, many, top)
    if word == "losses":
        return Losses(world, random.randint(0, 2))
    if word == "moves":
        return Moves(world, random.randint(0, 2 if many < 6 else 1))
    words = [random.choice(KINDS[:5]) for _ in range(2)]
    parts = [random_family(random, many, each, top) for each in words]
    if random.random() < 0.4:
        parts[0] = Either(parts[0], random_family(random, many, "listed", top))
    return Either(*parts)


def random_stretches(random, many, top=3, unseen=4):
    pairs = [(u, u) for u in random_world(random, many, top)]
    for tie in random.sample(range(many), min(many, unseen)):
        low = random.randint(0, top - 1)
        pairs[tie] = (low, random.randint(low, low + 2))
    return Stretches(pairs)


def family_cases(seed, count, *, words=KINDS, kinds=(Oneway, Twoway), least=2, most=4, ties=6, top=3):
    """Triples of a net, a family of each of the kinds in turn, and all worlds of it."""
    random = Random(seed)
    cases = []
    for at in range(count):
        for word in words:
            for kind in kinds:
                size = random.randint(least, most)
                net = random_net(random, size, random.randint(min(1, size - 1), ties), kind)
                family = random_family(random, net.many, word, top)
                cases.append((net, family, counted_worlds(family)))
    return cases


class Counted:
    """The costs of all lots of a net in all worlds, and what follows from them."""

    def __init__(self, net, worlds):
        self.net = net
        self.worlds = worlds
        self.size = net.size
        self.whole = tuple(range(net.size))
        lots = subsets(self.whole)
        self.costs = [{lot: counted_cost(net, world, lot) for lot in lots} for world in worlds]

    def turned(self):
        return Counted(type(self.net)(self.size, [(b, a) for a, b in self.net.ties]), self.worlds)

    def gap(self, one, other):
        return max(costs[one] - costs[other] for costs in self.costs)

    def dearer(self, one, other):
        return [world for world, costs in zip(self.worlds, self.costs) if costs[one] > costs[other]]

    def alike(self, one, other):
        return all(costs[one] == costs[other] for costs in self.costs)

    def never_dearer(self, one, other):
        return all(costs[one] <= costs[other] for costs in self.costs)

    def holds(self, holders, lot):
        return all(self.never_dearer(lot, inside) for inside in lots_from(holders, lot))

    def holders(self, lot):
        return tuple(p for p in lot if self.holds((p,), lot))

    def held(self, holders):
        return [lot for lot in lots_from(holders, self.whole) if self.holds(holders, lot)]

    def fit(self, holders, sinks):
        return lots_from(holders, rest_of(self.size, sinks))

    def flows(self, holders, sinks):
        """F in each world."""
        lots = self.fit(holders, sinks)
        return [min(costs[lot] for lot in lots) for costs in self.costs]

    def serving(self, holders, sinks):
        """All sides that serve, by size."""
        flows = self.flows(holders, sinks)
        lots = self.fit(holders, sinks)
        return [lot for lot in lots if all(costs[lot] == flow for costs, flow in zip(self.costs, flows))]

    def serves(self, holders, sinks, lot):
        return lot in self.serving(holders, sinks)

    def pairs(self):
        """All pairs of different places."""
        return [(p, q) for p in self.whole for q in self.whole if p != q]

    def settled(self):
        return [(p, q) for p, q in self.pairs() if self.serving((p,), (q,))]

    def possible(self, holders, sinks):
        flows = self.flows(holders, sinks)
        lots = self.fit(holders, sinks)
        return [lot for lot in lots if any(costs[lot] == flow for costs, flow in zip(self.costs, flows))]

    def regret(self, holders, sinks, lot):
        flows = self.flows(holders, sinks)
        return max(costs[lot] - flow for costs, flow in zip(self.costs, flows))

    def inner_regret(self, holders, lot):
        return max(self.gap(lot, inside) for inside in lots_from(holders, lot))
