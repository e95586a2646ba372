"""Families and trees of nets that are glued at a place."""

from leastgates.changes import Losses, Moves
from leastgates.checks import is_integer
from leastgates.errors import BadNumber
from leastgates.families import Either, Listed, Told, parts_of
from leastgates.stretches import Stretches
from leastgates.trees import Tree


def cut_family(family, first, last):
    """The family made from the entries first to last - 1 of what the family is made from."""
    if not is_integer(first) or not 0 <= first <= family.many:
        raise BadNumber("first")
    if not is_integer(last) or not first <= last <= family.many:
        raise BadNumber("last")
    # An either family stands ahead of its two parts, so from the end on the parts of one are ready
    # when it comes, without going down a long chain of families.
    ready = []
    for part in parts_of(family)[::-1]:
        if isinstance(part, Either):
            one = ready.pop()
            other = ready.pop()
            ready.append(Either(one, other))
        else:
            ready.append(cut_leaf(part, first, last))
    return ready[0]


def cut_leaf(family, first, last):
    """What cut_family answers for a family that is no either family."""
    if isinstance(family, Told):
        return Told(family.world[first:last])
    if isinstance(family, Listed):
        return Listed.of_list([world[first:last] for world in family.choices])
    if isinstance(family, Losses):
        return Losses(family.world[first:last], family.number)
    if isinstance(family, Moves):
        return Moves(family.world[first:last], family.change)
    return Stretches(family.pairs[first:last])


def trees_glued(tree, other):
    """The tree with the edges of both, the last place of the one being the place 0 of the other."""
    by = tree.size - 1
    return Tree(by + other.size, list(tree) + [(p + by, q + by) for p, q in other])
