"""What the tests of desks share: small desks, random deeds, and all answers of a desk against the stages before."""

from leastgates.desks import Desk
from leastgates.flows import flow_between
from leastgates.nets import Twoway
from leastgates.onetree import is_one_tree, one_tree
from leastgates.regrets import regret
from leastgates.serving import settled_pairs, serves
from leastgates.splits import matched, sides_number
from leastgates.steps import full_grove
from leastgates.stretches import Stretches
from tests.support import random_net
from tests.woods import MOST


def now_of(pairs, lost):
    """The stretches now: the pair (0, 0) for each lost tie."""
    return Stretches([(0, 0) if tie in lost else pair for tie, pair in enumerate(pairs)])


def random_desk(random, least=2, most=5, ties=8, top=4):
    """A desk, with the pairs and the lost ties that it is made with."""
    size = random.randint(least, most)
    net = random_net(random, size, random.randint(2, ties), Twoway)
    if size > 2 and random.random() < 0.6:
        order = random.sample(range(size), size)
        net = Twoway(size, net.ties[size:] + tuple((order[at - 1], order[at]) for at in range(size)))
    pairs = [(low, low + random.choice((0, 1, 2, 3))) for low in (random.randint(0, top) for _ in net.ties)]
    lost = sorted(random.sample(range(net.many), random.choice((0, 0, 1))))
    return Desk(net, Stretches(pairs), lost=lost), pairs, tuple(lost)


def random_row(random, pairs, lost):
    """A deed that is allowed, as a row of tried, and the pairs and lost ties behind it."""
    tie = random.randrange(len(pairs))
    low, high = pairs[tie]
    if tie in lost:
        return ("find", tie), list(pairs), tuple(other for other in lost if other != tie)
    word = random.choice(("ask", "narrow", "reset", "lose"))
    if word == "lose":
        return ("lose", tie), list(pairs), tuple(sorted(lost + (tie,)))
    if word == "ask":
        pair = (random.randint(low, high),) * 2
        row = ("ask", tie, pair[0])
    else:
        least = random.randint(low, high) if word == "narrow" else random.choice((0, 1, 3, MOST))
        pair = (least, random.randint(least, high) if word == "narrow" else least + random.choice((0, 2)))
        row = (word, tie) + pair
    return row, [pair if at == tie else old for at, old in enumerate(pairs)], lost


def do(desk, row):
    """The deed of a row, called as a method; the news."""
    word, *numbers = row
    return getattr(desk, word)(*numbers)


def all_answers(desk):
    """All answers of a desk but those among which it may choose, in a form that can be compared."""
    net = desk.net
    pairs = [(p, q) for p in range(net.size) for q in range(net.size) if p != q]
    tree = desk.tree()
    grove = desk.grove()
    return {
        "net": (net.size, net.ties), "lost": desk.lost, "list": list(desk), "pairs": desk.stretches.pairs,
        "now": desk.now.pairs, "settled": [desk.is_settled(p, q) for p, q in pairs],
        "sides": [desk.side_for(p, q) for p, q in pairs], "ends": [desk.flow_ends(p, q) for p, q in pairs],
        "grove": (grove.lots, grove.edges, grove.posts), "many": desk.many_sides(),
        "tree": None if tree is None else tree.edges, "open": desk.open_pairs(), "ties": desk.open_ties(),
    }


def check_answers(case, desk, pairs, lost, deeds):
    """All answers of the desk against the functions of the stages before."""
    net, now = desk.net, now_of(pairs, lost)
    case.assertTrue(desk.stretches == Stretches(pairs) and desk.now == now)
    case.assertEqual((desk.lost, list(desk), len(desk)), (tuple(lost), list(lost), deeds))
    for tie in range(-1, net.many + 1):
        case.assertIs(tie in desk, 0 <= tie < net.many and tie not in lost)
    settled = settled_pairs(net, now)
    opened = [(p, q) for p in range(net.size) for q in range(p + 1, net.size) if (p, q) not in settled]
    case.assertEqual((desk.open_pairs(), desk.open_ties()), (opened, now.unseen()))
    for p in range(net.size):
        for q in range(net.size):
            if p != q:
                check_pair(case, desk, now, p, q, (min(p, q), max(p, q)) in settled)
    grove, tree = desk.grove(), desk.tree()
    case.assertTrue(grove.net == net and grove.family == now and grove.is_full())
    case.assertIsNotNone(matched(grove, full_grove(net, now, last=True)))
    case.assertEqual(desk.many_sides(), sides_number(net, now))
    case.assertIs(tree is None, one_tree(net, now) is None)
    case.assertTrue(tree is None or is_one_tree(net, now, tree))


def check_pair(case, desk, now, p, q, settled):
    net = desk.net
    case.assertIs(desk.is_settled(p, q), settled)
    side = desk.side_for(p, q)
    case.assertIs(side is not None, settled)
    case.assertTrue(side is None or serves(net, now, [p], [q], side))
    case.assertEqual(desk.flow_ends(p, q), (flow_between(net, now.lows, p, q), flow_between(net, now.highs, p, q)))
    for lot in ((p,), tuple(place for place in range(net.size) if place != q), side or (p,)):
        case.assertEqual(desk.regret_of(list(lot)[::-1], p, q), regret(net, now, [p], [q], lot))
