"""[46], [47], [54], [58]: the base of all families, told, listed and either families."""

import inspect
import unittest
from random import Random

from leastgates import errors as e
from leastgates.changes import Losses, Moves
from leastgates.families import Either, Family, Listed, Told, either
from leastgates.stretches import Stretches
from tests.forms import FAMILIES, NOT_INTEGERS, NOT_ROWS
from tests.support import check_error, some, subsets
from tests.worlds import KINDS, counted_middle, counted_worlds, random_family, random_world

CLASSES = (Told, Listed, Either, Stretches, Losses, Moves)
MOST = 10 ** 30


def small_families(seed, count, most=5, least=0):
    """Families of all kinds in turn, over few ties, with all their worlds."""
    random = Random(seed)
    for _ in range(count):
        for word in KINDS:
            family = random_family(random, random.randint(max(least, 1 if word == "stretches" else 0), most), word)
            yield family, counted_worlds(family)


def apart_ties(many):
    """All pairs of tie sets without a common tie."""
    for plus in subsets(range(many)):
        for minus in subsets([tie for tie in range(many) if tie not in plus]):
            yield plus, minus


def difference(world, plus, minus):
    return sum(world[tie] for tie in plus) - sum(world[tie] for tie in minus)


class Families(unittest.TestCase):
    def test_words_and_bases(self):
        self.assertEqual(Family.WORD, "")
        for kind in CLASSES:
            self.assertIn(kind.__name__.lower(), KINDS)
            self.assertEqual(kind.WORD, kind.__name__.lower())
            self.assertEqual(kind.__bases__, (Family,))
        for word, family in FAMILIES.items():
            self.assertEqual(family.WORD, word)

    def test_methods_stand_in_the_body_of_each_class(self):
        for kind in CLASSES:
            for name in ("__init__", "gap", "gap_world", "middle", "has", "worlds"):
                self.assertIn(name, vars(kind))
            self.assertTrue(inspect.isgeneratorfunction(kind.worlds))
        for name in ("many", "__len__", "seen", "dead", "__contains__", "__or__", "__eq__"):
            self.assertIn(name, vars(Family))
            self.assertFalse(any(name in vars(kind) for kind in CLASSES))
        self.assertIsInstance(vars(Family)["many"], property)
        self.assertIsInstance(vars(Listed)["of_list"], classmethod)

    def test_many(self):
        for family, worlds in small_families(210, 20):
            self.assertEqual((family.many, len(family)), (len(worlds[0]),) * 2)

    def test_gaps_against_a_counting(self):
        for family, worlds in small_families(211, 25, most=4):
            for plus, minus in some(211, apart_ties(family.many), 30):
                told = max(difference(world, plus, minus) for world in worlds)
                self.assertEqual(family.gap(list(plus[::-1]), list(minus)), told)
                found = family.gap_world(plus, minus[::-1])
                self.assertIs(type(found), tuple)
                self.assertIn(found, worlds)
                self.assertEqual(difference(found, plus, minus), told)

    def test_gaps_of_nothing(self):
        for family, worlds in small_families(212, 20):
            self.assertEqual(family.gap((), []), 0)
            self.assertIn(family.gap_world([], ()), worlds)

    def test_worlds_against_a_counting(self):
        for family, worlds in small_families(213, 30):
            self.assertEqual(list(family.worlds()), worlds)
            self.assertEqual(list(family.worlds()), worlds)

    def test_has_against_a_counting(self):
        random = Random(214)
        for family, worlds in small_families(214, 30):
            others = [random_world(random, family.many, 6) for _ in range(20)]
            for world in worlds + others:
                told = world in worlds
                self.assertIs(family.has(list(world)), told)
                self.assertIs(list(world) in family, told)
                self.assertIs(world in family, told)

    def test_in_takes_any_value(self):
        for word, family in FAMILIES.items():
            world = list(next(iter(family.worlds())))
            self.assertIs(world in family, True)
            wrong = list(NOT_ROWS) + [world + [0], world[1:], [], set(world), str(world)]
            wrong += [[entry] + world[1:] for entry in NOT_INTEGERS + (-1,)]
            for value in wrong:
                with self.subTest(word=word, value=value):
                    self.assertIs(value in family, False)

    def test_middle(self):
        for family, _ in small_families(215, 40):
            self.assertEqual(family.middle(), counted_middle(family))
            self.assertIs(type(family.middle()), tuple)

    def test_seen_and_dead(self):
        for family, worlds in small_families(216, 60):
            ties = range(family.many)
            self.assertEqual(family.seen(), tuple(t for t in ties if len({world[t] for world in worlds}) == 1))
            self.assertEqual(family.dead(), tuple(t for t in ties if all(world[t] == 0 for world in worlds)))

    def test_over_no_tie(self):
        for family in (Told(()), Listed([], ()), Stretches([]), Losses((), 3), Moves([], 3), Told([]) | Moves((), 1)):
            self.assertEqual((family.many, len(family), list(family.worlds())), (0, 0, [()]))
            self.assertEqual((family.seen(), family.dead(), family.middle()), ((), (), ()))
            self.assertEqual((family.gap((), ()), family.gap_world([], [])), (0, ()))
            self.assertIs(family.has(()), True)
            self.assertIs([] in family, True)
            check_error(self, lambda: family.has([0]), e.BadWorld, -1)
            check_error(self, lambda: family.gap([0], []), e.BadTies, 0)


class Equal(unittest.TestCase):
    def test_equal_arguments(self):
        makers = [
            lambda f: Told(f([1, 2])), lambda f: Told(f([2, 1])), lambda f: Told(f([1])),
            lambda f: Listed(f([1, 2])), lambda f: Listed(f([1, 2]), f([2, 1])), lambda f: Listed(f([2, 1]), f([1, 2])),
            lambda f: Listed(f([1, 2]), f([1, 2])), lambda f: Stretches(f([f([1, 1]), f([2, 2])])),
            lambda f: Stretches(f([f([1, 2]), f([2, 2])])), lambda f: Losses(f([1, 2]), 0),
            lambda f: Losses(f([1, 2]), 1), lambda f: Losses(f([2, 2]), 1), lambda f: Moves(f([1, 2]), 0),
            lambda f: Moves(f([1, 2]), 1), lambda f: Moves(f([2, 2]), 1),
            lambda f: Either(Told(f([1, 2])), Told(f([2, 1]))), lambda f: Either(Told(f([2, 1])), Told(f([1, 2]))),
            lambda f: either(Told(f([1])), Told(f([1])), Told(f([1]))),
            lambda f: Either(Told(f([1])), Either(Told(f([1])), Told(f([1])))),
        ]
        for at, make in enumerate(makers):
            for other, make_other in enumerate(makers):
                self.assertIs(make(list) == make_other(tuple), at == other)
                self.assertIs(make(list) != make_other(tuple), at != other)

    def test_other_values(self):
        for family in FAMILIES.values():
            for value in (None, 3, (3, 2, 4, 1, 2), "told", True, [family]):
                self.assertIs(family == value, False)
                self.assertIs(family != value, True)
            self.assertIs(family == family, True)


class ToldAndListed(unittest.TestCase):
    def test_attributes(self):
        world = [1, 2, 3]
        more = [2, 2, 2]
        told, listed = Told(world), Listed(world, more, tuple(world))
        world[0] = 9
        more.append(7)
        self.assertEqual((told.world, told.many), ((1, 2, 3), 3))
        self.assertEqual(listed.choices, ((1, 2, 3), (2, 2, 2), (1, 2, 3)))
        self.assertIs(type(listed.choices[1]), tuple)

    def test_equal_worlds_listed_twice(self):
        listed = Listed([2, 1], [1, 5], [2, 1])
        self.assertEqual(listed.middle(), (5, 7))
        self.assertEqual(list(listed.worlds()), [(1, 5), (2, 1)])
        self.assertEqual(listed.gap([1], [0]), 4)
        self.assertEqual(listed.gap_world([1], [0]), (1, 5))

    def test_of_list(self):
        rows = ([1, 2], (3, 4))
        found = Listed.of_list(rows)
        self.assertIs(type(found), Listed)
        self.assertEqual((found.choices, found), (((1, 2), (3, 4)), Listed([1, 2], [3, 4])))
        self.assertEqual(Listed.of_list([[]]).choices, ((),))

    def test_errors_world_by_world(self):
        check_error(self, lambda: Listed([1], [1, 2], [True]), e.OtherSize, 2)
        check_error(self, lambda: Listed([1], [1, True], [1, 2]), e.BadWorld, 1)
        check_error(self, lambda: Listed([1], [1], 7), e.BadWorld, -1)
        check_error(self, lambda: Listed([-1], 7), e.BadWorld, 0)
        for value in (None, 0, "", {}, [], (), "12", {(1,): 2}):
            check_error(self, lambda: Listed.of_list(value), e.NoWorld)

    def test_great_capacities(self):
        self.assertEqual(Listed([MOST], [MOST]).middle(), (2 * MOST,))
        self.assertEqual(Told([MOST, MOST, 1]).gap([0, 1], [2]), 2 * MOST - 1)

    def test_three_thousand_worlds(self):
        rows = [(a, b) for a in range(60) for b in range(50)]
        self.assertEqual(list(Listed.of_list(rows[::-1] + rows).worlds()), rows)
        worlds = Listed.of_list(rows + [(60, 0)]).worlds()
        check_error(self, lambda: next(worlds), e.TooMany, 3001)


class EitherOfTwo(unittest.TestCase):
    def test_attributes_and_sign(self):
        one, other = Told([1, 2]), Moves([1, 2], 1)
        found = one | other
        self.assertIs(type(found), Either)
        self.assertIs(found.one, one)
        self.assertIs(found.other, other)
        self.assertEqual((found, found.many), (Either(one, other), 2))

    def test_from_left_to_right(self):
        one, other, third = Told([1]), Losses([2], 1), Moves([3], 0)
        self.assertIs(either(one), one)
        self.assertEqual(either(one, other, third), (one | other) | third)
        self.assertNotEqual(either(one, other, third), one | (other | third))
        check_error(self, lambda: either(one, other, Told([1, 2]), Told([])), e.OtherSize, 2)

    def test_other_sizes(self):
        for one in FAMILIES.values():
            check_error(self, lambda: one | Told([1, 2]), e.OtherSize, 2)
            check_error(self, lambda: Either(Told([1, 2]), one), e.OtherSize, 5)

    def test_only_families_are_joined(self):
        for value in (None, 3, (3, 2, 4, 1, 2), [Told([1])]):
            with self.assertRaises(TypeError):
                Told([1]) | value

    def test_worlds_of_both_each_once(self):
        found = either(Told([2]), Stretches([(1, 3)]), Listed([7], [2]))
        self.assertEqual(list(found.worlds()), [(1,), (2,), (3,), (7,)])
        self.assertEqual(found.middle(), (2 + 4 + 9,))

    def test_a_listed_family_has_the_worlds_of_its_told_families(self):
        random = Random(217)
        for _ in range(30):
            rows = [random_world(random, 3) for _ in range(random.randint(1, 5))]
            listed, parts = Listed.of_list(rows), either(*[Told(row) for row in rows])
            self.assertEqual(list(listed.worlds()), list(parts.worlds()))
            self.assertEqual(listed.middle(), parts.middle())
            for plus, minus in apart_ties(3):
                self.assertEqual(listed.gap(plus, minus), parts.gap(plus, minus))

    def test_just_three_thousand_different_worlds(self):
        whole = Stretches([(0, 1499), (0, 1)])
        self.assertEqual(len(list((whole | Stretches([(700, 1499), (0, 1)])).worlds())), 3000)
        worlds = (whole | Told([1500, 0])).worlds()
        check_error(self, lambda: next(worlds), e.TooMany, 3001)
        worlds = (Told([0, 0]) | Stretches([(0, MOST), (0, MOST)])).worlds()
        check_error(self, lambda: next(worlds), e.TooMany, 3001)

    def test_a_long_chain_of_families(self):
        rows = [(at, at % 7) for at in range(2000)]
        chain = either(*[Told(row) for row in rows])
        self.assertEqual(list(chain.worlds()), rows)
        self.assertEqual(chain.gap([0], [1]), max(a - b for a, b in rows))
        self.assertEqual(difference(chain.gap_world([0], [1]), [0], [1]), chain.gap([0], [1]))
        self.assertEqual(chain.middle(), tuple(map(sum, zip(*rows))))
        self.assertIs(chain.has([1999, 4]), True)
        self.assertIs([1999, 5] in chain, False)
        self.assertEqual(chain, either(*[Told(list(row)) for row in rows]))
        self.assertNotEqual(chain, either(*[Told(row) for row in rows[::-1]]))


if __name__ == "__main__":
    unittest.main()
