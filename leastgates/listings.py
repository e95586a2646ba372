"""What a desk knows, in lines."""

from leastgates.gaps import cost_ends


def tie_line(desk, tie):
    """The line of a tie, without a line feed."""
    one, other = desk.net.ends_of(tie)
    low, high = desk.stretches.pairs[tie]
    told = "lost" if tie in desk.lost else span(low, high)
    return f"{tie} {one}-{other} {told}"


def listing(desk):
    """The head, the ties, the lots and the sides of a full grove, and what is open."""
    net = desk.net
    grove = desk.grove()
    lines = [f"{net.size} places, {net.many} ties, sides {grove.many} of {net.size - 1}, deeds {len(desk)}"]
    lines = lines + [tie_line(desk, tie) for tie in range(net.many)]
    lines = lines + [worded("lot", lot) for lot in grove]
    lines = lines + [side_line(desk, side) for side in grove.side_list()]
    lines.append(open_line(desk))
    return "".join([line + "\n" for line in lines])


def side_line(desk, side):
    """The line of a side, with its least and its greatest cost."""
    low, high = cost_ends(desk.net, desk.now, side)
    return worded("side", side) + " at " + span(low, high)


def open_line(desk):
    """That there is one tree, or else the pairs that are open."""
    if desk.tree() is not None:
        return "one tree"
    return worded("open", [f"{p}-{q}" for p, q in desk.open_pairs()])


def worded(word, entries):
    """The word and the entries, separated by blanks."""
    return " ".join([word] + [str(entry) for entry in entries])


def span(low, high):
    """Two numbers, or one if they are equal."""
    return f"{low}" if low == high else f"{low}..{high}"
