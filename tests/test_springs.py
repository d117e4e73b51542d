"""springs.py: points 3.1 and 3.2."""

import random
import unittest

from tests.samples import Case, ODD_VALUES, fork, long_river, some_cubes, some_river
from weirkeepers.errors import NoWeir, NotSprings
from weirkeepers.rivers import River
from weirkeepers.springs import Springs, springs_for

MOST = 10 ** 32
NO_FLOWS = [-1, MOST + 1, True, False, None, "1", [1], (1,), "", [], ()]
NO_CUBES = [-1, 10 ** 30 + 1, True, False, None, "1", [1], (1,), "", [], ()]
NO_KEYS = ["e", "sea", "", "A", None, True, 0, 7, (), ("a",), (1, ("a",))]


class SpringsTest(Case):

    def test_flows_and_waters(self):
        springs = Springs(fork(), {"d": 5, "b": 2, "a": 1}, {"a": 3, "c": 9, "d": 5})
        self.assertEqual(springs.river, fork())
        self.assertEqual([springs.spring(weir) for weir in fork()], [1, 2, 0, 5])
        self.assertEqual([springs.fish(weir) for weir in fork()], [3, 0, 9, 5])
        self.assertEqual([springs.natural(weir) for weir in fork()], [8, 2, 5, 5])
        self.assertEqual([springs.water(weir) for weir in fork()], [5, 2, 0, 0])
        self.assertEqual(springs.short(), ("c",))
        self.assertEqual(springs.waters(), {"a": 5, "b": 2, "c": 0, "d": 0})
        self.assertEqual(list(springs.waters()), ["a", "b", "c", "d"])

    def test_nothing_at_all(self):
        springs = Springs(fork(), {}, {})
        self.assertEqual(springs.waters(), {"a": 0, "b": 0, "c": 0, "d": 0})
        self.assertEqual(springs.short(), ())

    def test_short_weirs_in_order(self):
        springs = Springs(fork(), {"c": 1}, {"d": 1, "c": 1, "b": 1, "a": 2})
        self.assertEqual(springs.short(), ("a", "b", "d"))

    def test_the_greatest(self):
        springs = Springs(fork(), {"a": MOST, "d": MOST}, {"a": MOST})
        self.assertEqual((springs.natural("a"), springs.water("a"), springs.natural("c")), (2 * MOST, MOST, MOST))
        river = long_river()
        self.assertEqual(Springs(river, {weir: MOST for weir in river}, {}).natural("bn"), 40 * MOST)

    def test_the_first_wrong_key(self):
        for value in NO_FLOWS:
            self.fails(NotSprings("c"), Springs, fork(), {"d": 1, "c": value, "b": value, "e": 1}, {"a": -1})
            self.fails(NotSprings("c"), Springs, fork(), {"d": 1}, {"d": 1, "c": value, "e": 1})
        for key in NO_KEYS:
            self.fails(NotSprings(key), Springs, fork(), {"d": 1, key: 1, "b": -1}, {"a": -1})
            self.fails(NotSprings(key), Springs, fork(), {"d": 1}, {"d": 1, key: 1, "b": -1})
        self.fails(NotSprings("b"), Springs, fork(), {"b": -1, "e": 1}, {})
        self.fails(NotSprings("a"), Springs, fork(), {"b": 1}, {"b": 1, "a": MOST + 1})

    def test_unknown_weirs(self):
        springs = Springs(fork(), {}, {})
        for value in ODD_VALUES + ["sea", "e"]:
            for method in [springs.spring, springs.fish, springs.natural, springs.water]:
                self.fails(NoWeir(value), method, value)

    def test_sum(self):
        one = Springs(fork(), {"a": 1, "d": MOST - 1}, {"b": 2, "c": MOST})
        other = Springs(fork(), {"d": 1, "b": 4}, {"a": 1, "b": 3})
        total = one + other
        self.assertEqual(total, Springs(fork(), {"a": 1, "b": 4, "d": MOST}, {"a": 1, "b": 5, "c": MOST}))
        self.assertEqual(one, Springs(fork(), {"a": 1, "d": MOST - 1}, {"b": 2, "c": MOST}))
        self.assertEqual(other + one, total)
        with self.assertRaises(TypeError):
            total = one + one.waters()

    def test_sums_that_are_just_too_great(self):
        one = Springs(fork(), {"c": MOST, "d": MOST}, {"a": MOST})
        self.fails(NotSprings("c"), one.__add__, Springs(fork(), {"d": 1, "c": 1}, {"a": 1}))
        self.fails(NotSprings("d"), one.__add__, Springs(fork(), {"d": 1}, {"a": 1}))
        self.fails(NotSprings("a"), one.__add__, Springs(fork(), {"a": 1}, {"b": 1, "a": 1}))
        turned = River(fork().rows()[::-1])
        one = Springs(turned, {"c": MOST, "d": MOST}, {})
        self.fails(NotSprings("d"), one.__add__, Springs(turned, {"c": 1, "d": 1}, {}))

    def test_equality(self):
        one = Springs(fork(), {"a": 1, "b": 2}, {"c": 3})
        self.assertTrue(one == Springs(fork(), {"b": 2, "a": 1, "d": 0}, {"c": 3, "a": 0}))
        turned = River(fork().rows()[::-1])
        self.equals_nothing_else(one, Springs(turned, {"a": 1, "b": 2}, {"c": 3}), Springs(fork(), {"b": 2}, {"c": 3}),
                                 Springs(fork(), {"a": 1, "b": 2}, {}), one.waters(), fork())
        self.assertFalse(Springs(fork(), {"a": 2}, {"a": 1}) == Springs(fork(), {"a": 1}, {}))

    def test_arguments_and_answers_are_copied(self):
        flows = {"a": 1}
        fish = {"b": 1}
        springs = Springs(fork(), flows, fish)
        flows["a"] = 7
        fish["b"] = 7
        springs.waters()["a"] = 9
        self.assertEqual(springs, Springs(fork(), {"a": 1}, {"b": 1}))
        self.assertEqual(springs.waters(), {"a": 1, "b": 0, "c": 0, "d": 0})

    def test_against_the_definitions(self):
        dice = random.Random(21)
        for _ in range(60):
            river = some_river(dice)
            flows, fish = some_cubes(dice, river), some_cubes(dice, river, 20)
            springs = Springs(river, flows, fish)
            for weir in river:
                natural = sum(flows.get(high, 0) for high in river if weir in river.course(high))
                self.assertEqual(springs.natural(weir), natural)
                self.assertEqual(springs.water(weir), max(0, natural - fish.get(weir, 0)))
                self.assertIs(weir in springs.short(), natural < fish.get(weir, 0))


class SpringsForTest(Case):

    def test_example(self):
        springs = springs_for(fork(), {"d": 4, "c": 7, "a": 2})
        self.assertEqual(springs, Springs(fork(), {"d": 4, "c": 3}, {"a": 5}))
        self.assertEqual(springs_for(fork(), {}), Springs(fork(), {}, {}))

    def test_gives_back_the_wanted_waters(self):
        dice = random.Random(22)
        for most in [3, 10 ** 30]:
            for _ in range(40):
                river = some_river(dice, 40)
                wanted = some_cubes(dice, river, most)
                springs = springs_for(river, wanted)
                self.assertEqual(springs.waters(), {weir: wanted.get(weir, 0) for weir in river})
                self.assertEqual(springs.short(), ())
                for weir in river:
                    above = sum(springs.natural(high) for high in river.above(weir))
                    self.assertEqual(springs.natural(weir), max(above, wanted.get(weir, 0)))
                    self.assertEqual(springs.fish(weir), springs.natural(weir) - wanted.get(weir, 0))

    def test_forty_with_the_greatest_waters(self):
        rows = [("a", "sea")] + [(weir, "a") for weir in long_river().weirs[1:]]
        springs = springs_for(River(rows), {weir: 10 ** 30 for weir in long_river()})
        self.assertEqual(springs.natural("a"), 39 * 10 ** 30)
        self.assertEqual(springs.fish("a"), 38 * 10 ** 30)

    def test_the_first_wrong_key(self):
        for value in NO_CUBES:
            self.fails(NotSprings("c"), springs_for, fork(), {"d": 1, "c": value, "b": -1, "e": 1})
        for key in NO_KEYS:
            self.fails(NotSprings(key), springs_for, fork(), {"d": 1, key: 1, "b": -1})


if __name__ == "__main__":
    unittest.main()
