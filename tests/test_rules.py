"""The rules of shared/LANGUAGE.md for each file of the package, and the checks themselves."""

import importlib
import inspect
import pathlib
import re
import unittest

from tests.rules import faults

FOLDER = pathlib.Path(__file__).resolve().parent.parent / "leastgates"
DOC = FOLDER.parent.parent / "shared" / "DOC.md"
DEFINED = {
    "lots": "lot_of both common minus rest parts all_sides lots_between corners crosses",
    "nets": "Net Oneway Twoway check_twoway all_lot",
    "texts": "net_text net_from",
    "costs": "world_of cost amount spared spared_apart added net_told",
    "shapes": "shrunk behind lifted glued merged",
    "flows": "flow flow_between greatest_flow is_flow_row row_value",
    "leasts": "least_sides first_side last_side is_least fit_sides share",
    "leftover": "steps_left closed grow_closed",
    "raising": "raised by_capacity sides_behind",
    "tables": "FlowTable lesser_two net_of_table",
    "holding": "holds breaking_lot holders_of held_lots greatest_held holder_table rectangle",
    "fillings": "filling is_filling wrong_at",
    "gluing": "glue parted",
    "joining": "joined Held",
    "inside": "inner_flow made_holder",
    "families": "Family Told Listed Either either",
    "stretches": "Stretches side_high side_low near",
    "changes": "Losses Moves",
    "gaps": "never_dearer dearer_world alike cost_ends",
    "always": "always_holds broken_in always_holders peels peeled always_lots",
    "thin": "one_filling is_one_filling thinned",
    "serving": "serves served is_serving cheaper serving_side serving_sides settled settled_pairs Judge",
    "crossing": "corner_for empty_corners oneway_corners never_cross",
    "possible": "is_possible possible_for possible_sides",
    "regrets": "regret inner_regret outer_regret worst_inside joined_regret",
    "thirds": "third third_flow third_settled",
    "solid": "weak_split is_solid always_solid loose_world moved_off shown_outside",
    "standing": "stands around around_world inside_lot",
    "far": "far_shrunk near_pairs pairs_behind shrink_row",
    "trees": "Tree all_trees",
    "cuttrees": "is_cut_tree cheaper_side cut_tree cut_trees least_total flow_on uncrossed",
    "ranks": "ranks greatest_tree tree_ranks flows_sum matched_edges",
    "nearby": "least_dist greatest_dist trees_raised trees_lowered common_trees holders_by",
    "bearing": "bears_raises raise_that_breaks",
    "groves": "Grove",
    "steps": "first_grove refine full_grove",
    "onetree": "one_tree is_one_tree failing middle_tree stuck_lot tree_of",
    "splits": "matched sides_number parts_number grove_from thinned_tree common_tree",
    "wholeleast": "is_whole_least whole_least whole_cost whole_chain whole_edge",
    "gluings": "cut_family trees_glued",
    "rings": "is_ring ring_order found_ring least_tie ring_tree ring_worlds forest_tree",
    "rooms": "room best_room rise_that_breaks bears_change held_room",
    "papers": "asked is_half_paper lean_half_paper forced_ties is_paper is_tree_paper lean_tree_paper "
              "fewest_tree_paper",
    "desks": "Desk",
    "trials": "Trial tried_loss tried",
    "listings": "tie_line listing",
}
PARAMETERS = {
    ("lots", "all_sides"): "(size, *, with_place=None)",
    ("lots", "lots_between"): "(inner, outer)",
    ("lots", "parts"): "(lot, one, other)",
    ("costs", "added"): "(net, world, *worlds)",
    ("costs", "net_told"): "(singles, doubles)",
    ("shapes", "glued"): "(net, other, *others)",
    ("shapes", "lifted"): "(size, lot, side)",
    ("flows", "is_flow_row"): "(net, world, sources, sinks, row)",
    ("flows", "row_value"): "(net, sources, row)",
    ("leasts", "fit_sides"): "(size, sources, sinks)",
    ("leasts", "is_least"): "(net, world, sources, sinks, side)",
    ("leasts", "share"): "(net, one, other, sources, sinks)",
    ("leftover", "grow_closed"): "(size, steps, lot)",
    ("raising", "raised"): "(net, world, tie, by)",
    ("tables", "lesser_two"): "(table, p, q, r)",
    ("tables", "net_of_table"): "(size, rows)",
    ("holding", "greatest_held"): "(net, world, holders, misses)",
    ("fillings", "wrong_at"): "(net, world, holders, lot, row)",
    ("gluing", "glue"): "(net, lot, here, there)",
    ("joining", "joined"): "(one_holders, one_lot, other_holders, other_lot)",
    ("joining", "Held"): "(net, world, holders, lot)",
    ("nets", "Net"): "(size, ties)",
    ("nets", "Oneway"): "(size, ties)",
    ("nets", "Twoway"): "(size, ties)",
    ("tables", "FlowTable"): "(net, world)",
    ("inside", "inner_flow"): "(net, world, lot, one, other)",
    ("inside", "made_holder"): "(net, world, lot, holder, place)",
    ("families", "Told"): "(world)",
    ("families", "Listed"): "(world, *more)",
    ("families", "Either"): "(one, other)",
    ("families", "either"): "(family, *rest)",
    ("stretches", "Stretches"): "(pairs)",
    ("stretches", "side_high"): "(net, stretches, lot)",
    ("stretches", "side_low"): "(net, stretches, lot)",
    ("stretches", "near"): "(world, number)",
    ("changes", "Losses"): "(world, number)",
    ("changes", "Moves"): "(world, change)",
    ("gaps", "dearer_world"): "(net, family, one, other)",
    ("gaps", "cost_ends"): "(net, family, lot)",
    ("always", "always_holds"): "(net, family, holders, lot)",
    ("always", "broken_in"): "(net, family, holders, lot)",
    ("always", "always_holders"): "(net, family, lot)",
    ("always", "peels"): "(net, family, holders, misses)",
    ("always", "peeled"): "(net, family, holders, misses)",
    ("always", "always_lots"): "(net, family, holders)",
    ("thin", "one_filling"): "(net, stretches, holders, lot)",
    ("thin", "is_one_filling"): "(net, stretches, holders, lot, row)",
    ("thin", "thinned"): "(net, stretches, holders, lot, row, world)",
    ("serving", "serves"): "(net, family, holders, sinks, side)",
    ("serving", "served"): "(net, family, side)",
    ("serving", "cheaper"): "(net, family, holders, sinks, side)",
    ("serving", "serving_sides"): "(net, family, holders, sinks)",
    ("serving", "settled"): "(net, family, one, other)",
    ("serving", "settled_pairs"): "(net, family)",
    ("serving", "Judge"): "(net, family)",
    ("crossing", "corner_for"): "(net, family, one, one_pair, other, other_pair)",
    ("crossing", "empty_corners"): "(net, family, one, other)",
    ("crossing", "oneway_corners"): "(net, one, other)",
    ("possible", "is_possible"): "(net, stretches, holders, sinks, side)",
    ("possible", "possible_for"): "(net, stretches, side)",
    ("possible", "possible_sides"): "(net, stretches, holders, sinks)",
    ("regrets", "regret"): "(net, family, holders, sinks, side)",
    ("regrets", "inner_regret"): "(net, family, holders, lot)",
    ("regrets", "outer_regret"): "(net, family, sinks, side)",
    ("regrets", "worst_inside"): "(net, stretches, holders, lot)",
    ("regrets", "joined_regret"): "(net, stretches, holders, sinks, side)",
    ("thirds", "third"): "(net, family, p, q, r)",
    ("thirds", "third_flow"): "(net, family, p, q, r, world)",
    ("solid", "weak_split"): "(net, world, lot)",
    ("solid", "always_solid"): "(net, family, lot)",
    ("solid", "loose_world"): "(net, stretches, lot)",
    ("solid", "moved_off"): "(net, world, lot, side)",
    ("solid", "shown_outside"): "(net, world, lot, split)",
    ("standing", "stands"): "(net, world, place, lot)",
    ("standing", "around"): "(net, lot, ends, *, more=(), places=1)",
    ("standing", "around_world"): "(net, lot, world, more)",
    ("standing", "inside_lot"): "(size, lot)",
    ("far", "far_shrunk"): "(net, side)",
    ("far", "pairs_behind"): "(net, family, lot)",
    ("far", "shrink_row"): "(net, rows)",
    ("trees", "Tree"): "(size, edges)",
    ("trees", "all_trees"): "(size)",
    ("cuttrees", "cheaper_side"): "(net, world, tree)",
    ("cuttrees", "cut_trees"): "(net, world)",
    ("cuttrees", "flow_on"): "(tree, net, world, one, other)",
    ("cuttrees", "uncrossed"): "(side, branch, post)",
    ("ranks", "ranks"): "(net, world)",
    ("ranks", "tree_ranks"): "(tree, net, world)",
    ("ranks", "flows_sum"): "(tree, net, world)",
    ("ranks", "matched_edges"): "(tree, other)",
    ("nearby", "least_dist"): "(net, world, tie)",
    ("nearby", "trees_lowered"): "(net, world, tie)",
    ("nearby", "common_trees"): "(net, one, other)",
    ("nearby", "holders_by"): "(tree, net, world, at)",
    ("bearing", "bears_raises"): "(net, tree, ties)",
    ("bearing", "raise_that_breaks"): "(net, world, tree, ties)",
    ("groves", "Grove"): "(net, family, lots, edges, posts)",
    ("steps", "first_grove"): "(net, family)",
    ("steps", "refine"): "(grove, one, other)",
    ("steps", "full_grove"): "(net, family, *, start=None, last=False)",
    ("onetree", "failing"): "(net, family, tree)",
    ("onetree", "stuck_lot"): "(net, family)",
    ("onetree", "tree_of"): "(grove)",
    ("splits", "matched"): "(grove, other)",
    ("splits", "parts_number"): "(net, family)",
    ("splits", "grove_from"): "(net, family, sides)",
    ("splits", "thinned_tree"): "(net, family, tree, *, backwards=False)",
    ("splits", "common_tree"): "(net, worlds)",
    ("wholeleast", "is_whole_least"): "(net, family, side)",
    ("wholeleast", "whole_least"): "(net, family)",
    ("wholeleast", "whole_cost"): "(net, world)",
    ("wholeleast", "whole_chain"): "(net, stretches, tie)",
    ("wholeleast", "whole_edge"): "(grove)",
    ("gluings", "cut_family"): "(family, first, last)",
    ("gluings", "trees_glued"): "(tree, other)",
    ("rings", "ring_order"): "(net)",
    ("rings", "least_tie"): "(net, family)",
    ("rings", "ring_tree"): "(net, tie)",
    ("rings", "ring_worlds"): "(net, top)",
    ("rooms", "room"): "(net, world, tree)",
    ("rooms", "best_room"): "(net, world)",
    ("rooms", "rise_that_breaks"): "(net, world, tree)",
    ("rooms", "bears_change"): "(net, world, tree, change)",
    ("rooms", "held_room"): "(net, world, holders, lot)",
    ("papers", "asked"): "(stretches, world, ties)",
    ("papers", "is_half_paper"): "(net, stretches, world, holders, lot, ties)",
    ("papers", "lean_half_paper"): "(net, stretches, world, holders, lot, ties)",
    ("papers", "forced_ties"): "(net, stretches, world, holders, lot)",
    ("papers", "is_paper"): "(net, stretches, world, holders, sinks, side, ties)",
    ("papers", "is_tree_paper"): "(net, stretches, world, tree, ties)",
    ("papers", "lean_tree_paper"): "(net, stretches, world, tree, ties)",
    ("papers", "fewest_tree_paper"): "(net, stretches, world, tree)",
    ("desks", "Desk"): "(net, stretches, *, lost=())",
    ("trials", "Trial"): "(desk)",
    ("trials", "tried_loss"): "(desk, tie)",
    ("trials", "tried"): "(desk, rows)",
    ("listings", "tie_line"): "(desk, tie)",
    ("listings", "listing"): "(desk)",
}
METHODS = {
    ("families", "Told", "gap"): "(self, plus, minus)",
    ("families", "Listed", "gap_world"): "(self, plus, minus)",
    ("families", "Either", "has"): "(self, world)",
    ("stretches", "Stretches", "gap"): "(self, plus, minus)",
    ("stretches", "Stretches", "opposite"): "(self, world)",
    ("stretches", "Stretches", "ask"): "(self, tie, amount)",
    ("stretches", "Stretches", "narrow"): "(self, tie, low, high)",
    ("stretches", "Stretches", "with_high"): "(self, ties)",
    ("changes", "Losses", "gap_world"): "(self, plus, minus)",
    ("changes", "Moves", "gap"): "(self, plus, minus)",
    ("serving", "Judge", "__call__"): "(self, p, q)",
    ("trees", "Tree", "joins"): "(size, edges)",
    ("trees", "Tree", "side"): "(self, at)",
    ("trees", "Tree", "way"): "(self, one, other)",
    ("trees", "Tree", "costs"): "(self, net, world)",
    ("groves", "Grove", "side"): "(self, at)",
    ("groves", "Grove", "lot_at"): "(self, place)",
    ("groves", "Grove", "way"): "(self, one, other)",
    ("groves", "Grove", "serving"): "(self, one, other)",
    ("groves", "Grove", "told_pairs"): "(self)",
    ("groves", "Grove", "words"): "(self)",
    ("desks", "Desk", "ask"): "(self, tie, amount)",
    ("desks", "Desk", "narrow"): "(self, tie, low, high)",
    ("desks", "Desk", "reset"): "(self, tie, low, high)",
    ("desks", "Desk", "lose"): "(self, tie)",
    ("desks", "Desk", "find"): "(self, tie)",
    ("desks", "Desk", "back"): "(self)",
    ("desks", "Desk", "is_settled"): "(self, one, other)",
    ("desks", "Desk", "side_for"): "(self, one, other)",
    ("desks", "Desk", "flow_ends"): "(self, one, other)",
    ("desks", "Desk", "regret_of"): "(self, side, one, other)",
    ("desks", "Desk", "finish"): "(self, world)",
}

WRONG = [
    ("L2", "from leastgates.other import *\n"),
    ("L2", "from os.path import join\n"),
    ("L2", "from itertools import product\n"),
    ("L2", "A = 1\nfrom math import gcd\n"),
    ("L3", "A = len((1, 2))\n"),
    ("L3", "A, B = 1, 2\n"),
    ("L3", "for k in (1, 2):\n    pass\n"),
    ("L4", "def f(x=[]):\n    return x\n"),
    ("L4", "def keep(f):\n    return f\n\n\n@keep\ndef g():\n    return 1\n"),
    ("L5", "class A:\n    def __hash__(self):\n        return 1\n"),
    ("L5", "class A:\n    x: int = 1\n"),
    ("L5", "class A:\n    def __add__(self, other):\n        self.n = 1\n        return self\n"),
    ("L5", "class A:\n    def __neg__(self):\n        return f([1])\n\n\ndef f(xs):\n    xs.append(1)\n    return xs\n"),
    ("L5", "class A:\n    @property\n    def n(self):\n        return f(1)\n\n\ndef f(x):\n    k = 1\n    k += x\n    return k\n"),
    ("L5", "class A:\n    def __getitem__(self, at):\n        return at\n"),
    ("L5", "def f():\n    return [NotImplemented]\n"),
    ("L6", "def f(x):\n    with x:\n        pass\n"),
    ("L6", "class A:\n    def __enter__(self):\n        return self\n"),
    ("L6", "class A:\n    def __enter__(self):\n        return self\n\n    def __exit__(self, kind, value, trace):\n"
           "        f(self)\n\n\ndef f(x):\n    return x\n"),
    ("L6", "class A:\n    def __enter__(self):\n        return self\n\n    def __exit__(self, kind, value):\n"
           "        self.n = 1\n"),
    ("L6", "class A:\n    def __enter__(self):\n        return self\n\n    def __exit__(self, kind, value, trace):\n"
           "        self.n = self.n + 1\n"),
    ("L6", "class A:\n    def __init__(self):\n        self.n = 1\n\n\ndef f():\n    with A():\n        return 1\n"),
    ("L23", "class A:\n    def __enter__(self):\n        return self\n\n    def __exit__(self, kind, value, trace):\n"
            "        self.n = 1\n\n\ndef f():\n    with A():\n        yield 1\n"),
    ("L5", "class A:\n    @n.setter\n    def n(self, value):\n        self.m = value\n"),
    ("L5", "class A:\n    @property\n    def n(self):\n        return 1\n\n    @n.setter\n    def n(self, x, y):\n"
           "        self.m = x\n"),
    ("L4", "class A:\n    @property\n    def n(self):\n        return 1\n\n    @n.deleter\n    def n(self):\n"
           "        self.m = 1\n"),
    ("L6", "def f():\n    try:\n        return 1\n    finally:\n        pass\n"),
    ("L6", "def f(x):\n    if (k := x):\n        return k\n"),
    ("L7", "def f(x):\n    return x / 2\n"),
    ("L7", "def f(*xs):\n    return xs\n\n\ndef g(xs):\n    return f(*[x for x in xs])\n"),
    ("L7", "def f(*xs):\n    return xs\n\n\ndef g(xs):\n    return f(*xs, g(xs))\n"),
    ("L7", "def f(x):\n    return x * 1.5\n"),
    ("L7", "def f(xs):\n    return any(x for x in xs)\n"),
    ("L8", "def f(x):\n    return hash(x)\n"),
    ("L8", "def f(x):\n    print(x)\n"),
    ("L10", "def f():\n" + "    f()\n" * 40),
    ("L10", "# " + "x" * 119 + "\n"),
    ("L10", "# x\n" * 400),
    ("L12", "def f(xs):\n    return [_ for _ in xs]\n"),
    ("L14", "# \u00e9\n"),
    ("L15", "A = 1\nA = 2\n"),
    ("L15", "def f(id):\n    return id\n"),
    ("L15", "from math import gcd\n\n\ndef f(gcd):\n    return gcd\n"),
    ("L15", "A = [[1]]\n"),
    ("L16", "import math\n"),
    ("L17", "def f():\n    return 'an enum'\n"),
    ("L18", "class A:\n    pass\n\n\ndef f():\n    return [A]\n"),
    ("L18", "def f(x):\n    return x.nowhere\n"),
    ("L19", "def f(e):\n    raise e\n"),
    ("L19", "def f():\n    try:\n        return 1\n    except Exception:\n        return 2\n"),
    ("L20", "def f(x, y):\n    return x is y\n"),
    ("L21", "def f(x: int):\n    return x\n"),
    ("L22", "def f(x):\n    return sum([x], key=1)\n"),
    ("L22", "def f(x):\n    return f(x, 1)\n"),
    ("L22", "def f(x):\n    return [len, x]\n"),
    ("L23", "def f(x):\n    k = zip(x, x)\n    return k\n"),
    ("L23", "def f(x):\n    return g(range(x))\n\n\ndef g(x):\n    return x\n"),
    ("L23", "def f(x):\n    yield x\n\n\ndef g(x):\n    k = f(x)\n    return k\n"),
    ("L23", "class A:\n    def f(self):\n        yield 1\n\n\ndef g(x):\n    k = x.f()\n    return k\n"),
    ("L23", "class A:\n    def f(self):\n        yield 1\n\n\nclass B:\n    def f(self):\n        return 1\n"),
    ("L18", "class A:\n    def f(self):\n        return 1\n\n\nclass B(A):\n    def g(self):\n        self.f = 1\n"),
    ("L5", "class A:\n    @classmethod\n    def f(cls):\n        return [cls]\n"),
    ("L5", "class A:\n    @classmethod\n    def f(cls, xs):\n        return [cls(x) for x in xs]\n\n    def g(self):\n"
           "        self.f = 1\n"),
    ("L23", "def f(xs):\n    for x in xs:\n        xs.append(x)\n"),
    ("L24", "def f(xs):\n    k = set(xs)\n    return k\n"),
    ("L25", "def f(x):\n    return x.intersection(x)\n"),
    ("L26", "class A:\n    def decode(self):\n        return 1\n"),
    ("L26", "class A:\n    def __init__(self):\n        self.items = 1\n"),
    ("L27", "def f(x, y):\n    return x ** y\n"),
    ("L27", "def f():\n    return 'a%'\n"),
    ("L28", "class A:\n    def __init__(self):\n        return None\n"),
    ("L28", "class A:\n    def __len__(self):\n        return 1 + 1\n"),
]


def sources():
    return {path.name: path.read_text(encoding="utf-8") for path in sorted(FOLDER.glob("*.py"))}


class Rules(unittest.TestCase):
    def test_the_package_keeps_the_rules(self):
        self.assertEqual(faults(sources()), [])

    def test_the_folder_contains_nothing_else(self):
        names = [path.name for path in FOLDER.iterdir() if path.name != "__pycache__"]
        self.assertEqual([name for name in names if not name.endswith(".py")], [])
        self.assertIn("__init__.py", names)
        self.assertLessEqual(len(names), 100)

    def test_each_wrong_file_is_seen(self):
        for rule, text in WRONG:
            with self.subTest(rule=rule, text=text[:60]):
                self.assertIn(rule, [found[2] for found in faults({"other.py": "N = 1\n", "wrong.py": text})])

    def test_files_that_import_from_each_other_are_seen(self):
        texts = {"one.py": "from leastgates.two import B\n\nA = 1\n", "two.py": "from leastgates.one import A\n\nB = 1\n"}
        self.assertEqual({found[2] for found in faults(texts)}, {"L16"})

    def test_a_right_file_has_no_faults(self):
        text = ('"""A file."""\n\nfrom math import gcd\n\nA = (1, "x")\n\n\ndef f(xs, *, k=A):\n    """A function."""\n'
                '    found = []\n    for at, x in enumerate(xs):\n        found.append(gcd(at, x))\n'
                '    return sorted(set(found)), k\n')
        self.assertEqual(faults({"right.py": text}), [])


class Interface(unittest.TestCase):
    @unittest.skipUnless(DOC.is_file(), "shared/DOC.md is not here")
    def test_each_heading_has_its_file(self):
        sections = re.split(r"^## leastgates/(\w+)\.py$", DOC.read_text(encoding="utf-8"), flags=re.M)[1:]
        self.assertEqual(set(sections[::2]), set(DEFINED) | {"errors"})
        for name, text in zip(sections[::2], sections[1::2]):
            for word in DEFINED.get(name, "").split():
                with self.subTest(module=name, name=word):
                    self.assertRegex(text, r"\b" + word + r"[(:]")

    def test_each_name_is_defined_in_its_file(self):
        for name, words in DEFINED.items():
            module = importlib.import_module("leastgates." + name)
            for word in words.split():
                with self.subTest(module=name, name=word):
                    self.assertEqual(getattr(module, word).__module__, module.__name__)

    def test_parameters(self):
        for (name, word), told in PARAMETERS.items():
            module = importlib.import_module("leastgates." + name)
            with self.subTest(module=name, name=word):
                self.assertEqual(str(inspect.signature(getattr(module, word))), told)

    def test_parameters_of_methods(self):
        for (name, kind, word), told in METHODS.items():
            module = importlib.import_module("leastgates." + name)
            with self.subTest(module=name, kind=kind, name=word):
                method = vars(getattr(module, kind))[word]
                self.assertEqual(str(inspect.signature(getattr(method, "__func__", method))), told)


if __name__ == "__main__":
    unittest.main()
