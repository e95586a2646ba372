"""Families of one world that changes: some ties get lost, or capacities move by some total."""

from leastgates.checks import good_apart_ties, good_world
from leastgates.costs import amount
from leastgates.families import Family, need_few_worlds
from leastgates.stretches import good_amount, mixed


class Losses(Family):
    """The worlds in which at most so many ties of a world have the capacity 0 instead."""

    WORD = "losses"

    def __init__(self, world, number):
        capacities = good_world(None, world)
        Family.__init__(self, len(capacities), (capacities, good_amount("number", number)))
        self.world = capacities
        self.number = number

    def gap(self, plus, minus):
        """The greatest sum over plus less the sum over minus."""
        world = self.gap_world(plus, minus)
        return amount(world, plus) - amount(world, minus)

    def gap_world(self, plus, minus):
        """A world in which the gap is reached: the greatest capacities of minus are lost."""
        _, downs = good_apart_ties(self.many, plus, minus)
        by_capacity = sorted([(-self.world[tie], tie) for tie in downs])
        lost = [tie for _, tie in by_capacity[:self.number]]
        return mixed([0] * self.many, self.world, lost)

    def middle(self):
        """The middle: the world of which ties get lost."""
        return self.world

    def has(self, world):
        """True for a world of the family."""
        capacities = good_world(self.many, world)
        changed = [tie for tie in self._ties if capacities[tie] != self.world[tie]]
        return len(changed) <= self.number and amount(capacities, changed) == 0

    def worlds(self):
        """A generator of all worlds, ascending, each once."""
        for world in worlds_lost(self.world, self.number):
            yield world


class Moves(Family):
    """The worlds that differ from a world by at most the change, over all ties together."""

    WORD = "moves"

    def __init__(self, world, change):
        capacities = good_world(None, world)
        Family.__init__(self, len(capacities), (capacities, good_amount("change", change)))
        self.world = capacities
        self.change = change

    def gap(self, plus, minus):
        """The greatest sum over plus less the sum over minus."""
        ups, downs = good_apart_ties(self.many, plus, minus)
        if ups:
            return amount(self.world, ups) - amount(self.world, downs) + self.change
        return min(0, self.change - amount(self.world, downs))

    def gap_world(self, plus, minus):
        """A world in which the gap is reached: one tie of plus is raised, or ties of minus are lowered."""
        ups, downs = good_apart_ties(self.many, plus, minus)
        capacities = list(self.world)
        if ups:
            capacities[ups[0]] = capacities[ups[0]] + self.change
            return tuple(capacities)
        left = self.change
        for tie in downs:
            taken = min(left, capacities[tie])
            capacities[tie] = capacities[tie] - taken
            left = left - taken
        return tuple(capacities)

    def middle(self):
        """The middle: the world many times, with 1 instead of 0, for a change above 0."""
        if self.change == 0:
            return self.world
        times = 1 + self.many + len([capacity for capacity in self.world if capacity > 0])
        return tuple([times * capacity if capacity > 0 else 1 for capacity in self.world])

    def has(self, world):
        """True for a world of the family."""
        capacities = good_world(self.many, world)
        return sum([abs(capacities[tie] - self.world[tie]) for tie in self._ties]) <= self.change

    def worlds(self):
        """A generator of all worlds, ascending."""
        for world in worlds_moved(self.world, self.change):
            yield world


# Both lists below are built tie by tie. Each beginning of a world is that of some world, so as
# soon as there are too many beginnings there are too many worlds.

def worlds_lost(world, number):
    """All worlds that come from this one when at most so many ties get lost, ascending."""
    rows = [((), number)]
    for capacity in world:
        rows = [row for begun in rows for row in rows_lost(begun, capacity)]
        need_few_worlds(len(rows))
    return [begun for begun, _ in rows]


def rows_lost(row, capacity):
    """What a beginning of a world, with the losses that are left, goes on with at the next tie."""
    begun, left = row
    kept = [(begun + (capacity,), left)]
    if capacity > 0 and left > 0:
        return [(begun + (0,), left - 1)] + kept
    return kept


def worlds_moved(world, change):
    """All worlds that differ from this one by at most the change, ascending."""
    rows = [((), change)]
    for capacity in world:
        need_few_worlds(sum([min(left, capacity) + 1 + left for _, left in rows]))
        rows = [
            (begun + (entry,), left - abs(entry - capacity))
            for begun, left in rows for entry in range(max(0, capacity - left), capacity + left + 1)
        ]
    return [begun for begun, _ in rows]
