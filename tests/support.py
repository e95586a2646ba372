"""What the tests share: small nets, and answers found by counting all sides.

Nothing here uses the package to find an answer; only nets are made by it.
"""

from random import Random

from leastgates.nets import Oneway, Twoway


def subsets(places):
    """All lots of the given places, as ascending tuples, by size."""
    places = sorted(places)
    found = []
    for mask in range(1 << len(places)):
        found.append(tuple(p for at, p in enumerate(places) if mask >> at & 1))
    return by_size(found)


def by_size(lots):
    return sorted(lots, key=lambda lot: (len(lot), lot))


def lots_from(inner, outer):
    """All lots between inner and outer, by size."""
    free = [p for p in outer if p not in inner]
    return by_size([tuple(sorted(set(inner) | set(more))) for more in subsets(free)])


def sides_of(size):
    return [lot for lot in subsets(range(size)) if 0 < len(lot) < size]


def rest_of(size, lot):
    return tuple(p for p in range(size) if p not in lot)


def union(one, other):
    return tuple(sorted(set(one) | set(other)))


def meet(one, other):
    return tuple(sorted(set(one) & set(other)))


def less(one, other):
    return tuple(sorted(set(one) - set(other)))


def lies_in(one, other):
    return set(one) <= set(other)


def parts_pair(lot, one, other):
    """True if the lot has just one of two places."""
    return (one in lot) != (other in lot)


def is_twoway(net):
    return isinstance(net, Twoway)


def counted_gates(net, lot):
    found = []
    for tie, (a, b) in enumerate(net.ties):
        leaves = a in lot and b not in lot
        enters = b in lot and a not in lot
        if leaves or enters and is_twoway(net):
            found.append(tie)
    return tuple(found)


def counted_cost(net, world, lot):
    return sum(world[tie] for tie in counted_gates(net, lot))


def between_ties(net, one, other):
    found = []
    for tie, (a, b) in enumerate(net.ties):
        if (a in one and b in other) or (b in one and a in other):
            found.append(tie)
    return tuple(found)


def between_amount(net, world, one, other):
    return sum(world[tie] for tie in between_ties(net, one, other))


def fit_lots(size, sources, sinks):
    return lots_from(sources, rest_of(size, sinks))


def counted_flow(net, world, sources, sinks):
    """F by counting all fit sides."""
    return min(counted_cost(net, world, lot) for lot in fit_lots(net.size, sources, sinks))


def counted_least(net, world, sources, sinks):
    """All least sides by counting, by size."""
    least = counted_flow(net, world, sources, sinks)
    return [lot for lot in fit_lots(net.size, sources, sinks) if counted_cost(net, world, lot) == least]


def counted_holds(net, world, holders, lot):
    own = counted_cost(net, world, lot)
    return all(counted_cost(net, world, inside) >= own for inside in lots_from(holders, lot))


def led(net, row, place):
    """What the row leads out of a place, less what it leads in."""
    out = 0
    for tie, (a, b) in enumerate(net.ties):
        if a != b:
            out += row[tie] * ((a == place) - (b == place))
    return out


def within(net, world, tie, entry):
    low = -world[tie] if is_twoway(net) else 0
    return low <= entry <= world[tie]


def counted_is_flow(net, world, sources, sinks, row):
    """The properties of [17], one by one."""
    for tie, (a, b) in enumerate(net.ties):
        if not within(net, world, tie, row[tie]) or (a == b and row[tie] != 0):
            return False
    for place in range(net.size):
        balance = led(net, row, place)
        if place in sources and balance < 0 or place in sinks and balance > 0:
            return False
        if place not in sources and place not in sinks and balance != 0:
            return False
    return True


def counted_value(net, sources, row):
    value = 0
    for tie, (a, b) in enumerate(net.ties):
        value += row[tie] * ((a in sources and b not in sources) - (b in sources and a not in sources))
    return value


def all_rows(net, world):
    """All rows within the capacities, 0 on loops."""
    rows = [()]
    for tie, (a, b) in enumerate(net.ties):
        low = -world[tie] if is_twoway(net) else 0
        entries = [0] if a == b else range(low, world[tie] + 1)
        rows = [row + (entry,) for row in rows for entry in entries]
    return rows


def counted_wrong(net, world, holders, lot, row):
    """The first tie or place at which one of the four points of [40] fails."""
    gates = counted_gates(net, lot)
    for tie, (a, b) in enumerate(net.ties):
        if tie in gates:
            right = row[tie] == (world[tie] if a in lot else -world[tie])
        elif a in lot and b in lot and a != b:
            right = within(net, world, tie, row[tie])
        else:
            right = row[tie] == 0
        if not right:
            return ("tie", tie)
    for place in lot:
        balance = led(net, row, place)
        if balance < 0 or balance > 0 and place not in holders:
            return ("place", place)
    return None


def pairs_inside(size):
    """All pairs of a lot and a lot in it that is not empty."""
    return [(holders, lot) for lot in subsets(range(size)) for holders in subsets(lot)[1:]]


def random_net(random, size, many, kind):
    ties = [(random.randrange(size), random.randrange(size)) for _ in range(many)]
    return kind(size, ties)


def small_cases(seed, count, *, least=2, most=5, ties=7, top=4):
    """Pairs of a net and a world: both kinds in turn, with loops, same ends and zeros among them."""
    random = Random(seed)
    cases = []
    for at in range(count):
        size = random.randint(least, most)
        net = random_net(random, size, random.randint(0, ties), (Oneway, Twoway)[at % 2])
        cases.append((net, tuple(random.randint(0, top) for _ in net.ties)))
    return cases


def apart_lots(size):
    """All pairs of lots that are not empty and have no place in common."""
    found = []
    for one in subsets(range(size)):
        for other in subsets(rest_of(size, one)):
            if one and other:
                found.append((one, other))
    return found


def some(seed, items, count):
    """Some of the items, the same ones each time."""
    items = list(items)
    return items if len(items) <= count else Random(seed).sample(items, count)


def fields_of(error):
    """The fields of an error of the package."""
    return dict(vars(error))


def caught(call):
    """The error that the call raises; an assertion fails if it raises none."""
    from leastgates.errors import GatesError
    try:
        answer = call()
    except GatesError as error:
        return error
    raise AssertionError(f"no error, but {answer!r}")


def check_error(case, call, kind, *values):
    """The call raises an error of just this class with fields of just these values, in order."""
    error = caught(call)
    case.assertEqual((type(error).__name__, tuple(vars(error).values())), (kind.__name__, values))
    return error
