"""Flows from sources to sinks in one world.

The functions that the interface does not name check nothing. What a tie e can still lead
stands in a list of rooms: at 2 * e from its first end to its second one, at 2 * e + 1 back.
No function here changes a list that it is passed: sums of held lots run them, too.
"""

from leastgates.checks import good_lot, good_place, good_row, good_world, need_apart, need_filled, need_two


def flow(net, world, sources, sinks):
    """What can be led from the sources to the sinks."""
    capacities, starts, ends = good_ask(net, world, sources, sinks)
    return flow_of(net, capacities, starts, ends)


def flow_between(net, world, one, other):
    """What can be led from one place to another one."""
    capacities = good_world(net.many, world)
    good_place("one", net.size, one)
    good_place("other", net.size, other)
    need_two(one, other)
    return flow_of(net, capacities, (one,), (other,))


def greatest_flow(net, world, sources, sinks):
    """A flow row with the greatest value."""
    capacities, starts, ends = good_ask(net, world, sources, sinks)
    return greatest_row(net, capacities, starts, ends)


def is_flow_row(net, world, sources, sinks, row):
    """True if the row is a flow row."""
    capacities, starts, ends = good_forms(net, world, sources, sinks)
    entries = good_row(net.many, row)
    need_ends(starts, ends)
    return is_flow(net, capacities, starts, ends, entries)


def row_value(net, sources, row):
    """What the row leads out of the sources, less what it leads in."""
    starts = good_lot(net.size, sources)
    entries = good_row(net.many, row)
    need_filled("sources", starts)
    return value_of(net, starts, entries)


def good_forms(net, world, sources, sinks):
    """World, sources and sinks by their forms; what need_ends asks stands behind all forms."""
    return good_world(net.many, world), good_lot(net.size, sources), good_lot(net.size, sinks)


def good_ask(net, world, sources, sinks):
    """World, sources and sinks, where no further argument has a form."""
    capacities, starts, ends = good_forms(net, world, sources, sinks)
    need_ends(starts, ends)
    return capacities, starts, ends


def need_ends(sources, sinks):
    """Neither lot is empty, and no place is in both."""
    need_filled("sources", sources)
    need_filled("sinks", sinks)
    need_apart(sources, sinks)


def flow_of(net, world, sources, sinks):
    return value_of(net, sources, greatest_row(net, world, sources, sinks))


def greatest_row(net, world, sources, sinks):
    """A greatest flow row: as long as a way is left, a shortest one is filled. Without sinks it is 0.

    By shortest ways the number of rounds is bounded by places and ties, whatever the capacities.
    """
    arcs = arcs_of(net)
    rooms = rooms_of(net, world, [0] * net.many)
    way = way_left(arcs, rooms, sources, sinks)
    while way:
        rooms = led_along(rooms, way)
        way = way_left(arcs, rooms, sources, sinks)
    return tuple([capacity - rooms[2 * tie] for tie, capacity in enumerate(world)])


def arcs_of(net):
    """For each place the pairs of an index of rooms and the place that it leads to; no loops."""
    arcs = [[] for _ in range(net.size)]
    for tie, (first, second) in enumerate(net.ties):
        if first != second:
            arcs[first].append((2 * tie, second))
            arcs[second].append((2 * tie + 1, first))
    return arcs


def rooms_of(net, world, row):
    """What each tie can lead on beside a flow row, there and back."""
    rooms = []
    for tie, capacity in enumerate(world):
        back = capacity if net.KIND == "twoway" else 0
        rooms.append(capacity - row[tie])
        rooms.append(back + row[tie])
    return rooms


def way_left(arcs, rooms, sources, sinks):
    """The indexes of rooms on a shortest way from a source to a sink, empty if there is none."""
    ahead = {place: None for place in sources}
    queue = list(sources)
    at = 0
    while at < len(queue):
        here = queue[at]
        at += 1
        if here in sinks:
            return way_to(ahead, here)
        for index, place in arcs[here]:
            if rooms[index] > 0 and place not in ahead:
                ahead[place] = (index, here)
                queue.append(place)
    return []


def way_to(ahead, place):
    """The indexes on the way to a place; ahead tells the last index of it and the place before."""
    way = []
    step = ahead[place]
    while step is not None:
        way.append(step[0])
        step = ahead[step[1]]
    return way


def led_along(rooms, way):
    """The rooms behind leading as much as possible along the way."""
    by = min([rooms[index] for index in way])
    fresh = list(rooms)
    for index in way:
        fresh[index] = fresh[index] - by
        fresh[index ^ 1] = fresh[index ^ 1] + by
    return fresh


def is_flow(net, world, sources, sinks, row):
    """True if a row of integers is a flow row."""
    for tie, (first, second) in enumerate(net.ties):
        if not may_lead(net, world, row, tie) or first == second and row[tie] != 0:
            return False
    for place, led in enumerate(led_out(net, row)):
        if led > 0 and place not in sources or led < 0 and place not in sinks:
            return False
    return True


def may_lead(net, world, row, tie):
    """True if the capacity of the tie is enough for its entry."""
    least = -world[tie] if net.KIND == "twoway" else 0
    return least <= row[tie] <= world[tie]


def led_out(net, row):
    """For each place what the row leads out of it, less what it leads in."""
    led = [0] * net.size
    for tie, (first, second) in enumerate(net.ties):
        led[first] = led[first] + row[tie]
        led[second] = led[second] - row[tie]
    return led


def value_of(net, sources, row):
    led = led_out(net, row)
    return sum([led[place] for place in sources])
