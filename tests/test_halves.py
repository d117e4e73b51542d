"""halves.py: points 2.5, 2.6 and 2.9."""

import itertools
import random
import unittest

from tests.samples import Case, ODD_VALUES, fork, fork_rights, long_river, many_rights, some_river
from weirkeepers.errors import NoRight, NoWeir
from weirkeepers.halves import halves, spread, weir_halves
from weirkeepers.rights import Rights


class HalvesTest(Case):

    def check(self, rights, names):
        one, other = halves(rights, names)
        self.assertIsInstance(halves(rights, names), tuple)
        self.assertEqual(sorted(one + other), sorted(names))
        for half in (one, other):
            self.assertEqual(half, tuple(name for name in rights if name in half))
        for weir in rights.river:
            numbers = [len([name for name in half if rights.passes(name, weir)]) for half in (one, other)]
            self.assertLessEqual(abs(numbers[0] - numbers[1]), 1)
        if names:
            self.assertEqual(one[0], [name for name in rights if name in names][0])
        self.assertEqual(halves(rights, names), (one, other))

    def test_small_sets(self):
        rights = fork_rights()
        self.assertEqual(halves(rights, []), ((), ()))
        self.assertEqual(halves(rights, ["q"]), (("q",), ()))
        self.assertEqual(halves(rights, ["q", "p"]), (("p",), ("q",)))
        for size in range(6):
            for names in itertools.permutations(rights.names, size):
                self.check(rights, list(names))

    def test_any_sets(self):
        dice = random.Random(5)
        for rights in many_rights(120, 14, 14):
            for _ in range(5):
                names = [name for name in rights if dice.random() < 0.7]
                dice.shuffle(names)
                self.check(rights, names)

    def test_forty(self):
        for rights in many_rights(10, 40, 40):
            self.check(rights, list(rights.names))
        river = long_river()
        self.check(Rights(river, [(name, name, "sea") for name in river]), list(river))
        self.check(Rights(river, [(name, "a", name) for name in river]), list(river)[::-1])

    def test_names_must_be_different_and_known(self):
        for value in ODD_VALUES + ["a", "q"]:
            self.fails(NoRight(value), halves, fork_rights(), ["q", "p", value, "nobody"])
        names = ["s", "p"]
        halves(fork_rights(), names)
        self.assertEqual(names, ["s", "p"])


class WeirHalvesTest(Case):

    def test_example(self):
        self.assertEqual(weir_halves(fork(), []), ((), ()))
        self.assertEqual(weir_halves(fork(), ["d", "c", "b", "a"]), (("a", "d"), ("b", "c")))
        self.assertEqual(weir_halves(fork(), ["d", "b", "a"]), (("a",), ("b", "d")))
        self.assertEqual(weir_halves(fork(), ["d"]), (("d",), ()))

    def test_every_way(self):
        dice = random.Random(6)
        for _ in range(60):
            river = some_river(dice, 14)
            weirs = [weir for weir in river if dice.random() < 0.6]
            dice.shuffle(weirs)
            one, other = weir_halves(river, weirs)
            for half, rest in ((one, 0), (other, 1)):
                others = [len(set(river.course(weir)) & set(weirs)) - 1 for weir in half]
                self.assertTrue(all(number % 2 == rest for number in others))
                self.assertEqual(half, tuple(weir for weir in river if weir in half))
            self.assertEqual(sorted(one + other), sorted(weirs))
            for high in river:
                for low in river.course(high):
                    way = set(river.way(high, low))
                    self.assertLessEqual(abs(len(way & set(one)) - len(way & set(other))), 1)

    def test_weirs_must_be_different_and_known(self):
        for value in ODD_VALUES + ["sea", "d", "zz"]:
            if value != "a":
                self.fails(NoWeir(value), weir_halves, fork(), ["d", value, "nowhere"])
        weirs = ["c", "a"]
        weir_halves(fork(), weirs)
        self.assertEqual(weirs, ["c", "a"])


class SpreadTest(Case):

    def check(self, rights, cubes, halvings):
        parts = spread(rights, cubes, halvings=halvings)
        many = 2 ** halvings
        self.assertEqual(len(parts), many)
        for part in parts:
            self.assertEqual(tuple(part), rights.names)
            for name in rights:
                self.assertIn(part[name] * many - cubes.get(name, 0), range(1 - many, many))
            for weir in rights.river:
                whole = sum(cubes.get(name, 0) for name in rights.passing(weir))
                here = sum(part[name] for name in rights.passing(weir))
                self.assertIn(here * many - whole, range(1 - many, many))
        for name in rights:
            self.assertEqual(sum(part[name] for part in parts), cubes.get(name, 0))
        self.assertEqual(spread(rights, cubes, halvings=halvings), parts)

    def test_any_cubes(self):
        dice = random.Random(7)
        for rights in many_rights(50, 12, 12):
            for halvings in range(5):
                most = dice.choice([1, 3, 40, 10 ** 30])
                cubes = {name: dice.randint(0, most) for name in rights if dice.random() < 0.8}
                self.check(rights, cubes, halvings)

    def test_forty(self):
        dice = random.Random(8)
        for rights in many_rights(3, 40, 40):
            self.check(rights, {name: dice.randint(0, 10 ** 30) for name in rights}, 4)
            self.check(rights, {name: 10 ** 30 for name in rights}, 4)
            self.check(rights, {name: 10 ** 30 - 1 for name in rights}, 3)

    def test_edges(self):
        rights = fork_rights()
        self.assertEqual(spread(rights, {}, halvings=0), [{"p": 0, "q": 0, "r": 0, "s": 0, "sea": 0}])
        self.assertEqual(spread(rights, {"q": 5}, halvings=0), [{"p": 0, "q": 5, "r": 0, "s": 0, "sea": 0}])
        self.assertEqual(len(spread(rights, {"q": 5})), 2)
        self.assertEqual(spread(Rights(fork(), []), {}, halvings=2), [{}, {}, {}, {}])
        with self.assertRaises(TypeError):
            spread(rights, {}, 1)

    def test_unknown_keys_by_the_alphabet(self):
        rights = fork_rights()
        self.fails(NoRight("b"), spread, rights, {"z": 1, "p": 1, "b": 1, "c": 0})
        self.fails(NoRight(""), spread, rights, {"a": 1, "": 1})
        self.fails(NoRight("A"), spread, rights, {"a": 1, "A": 1})

    def test_arguments_and_answers_are_copied(self):
        rights = fork_rights()
        cubes = {"q": 3, "p": 2}
        parts = spread(rights, cubes, halvings=0)
        parts[0]["q"] = 9
        self.assertEqual(cubes, {"q": 3, "p": 2})
        self.assertEqual(spread(rights, cubes, halvings=0)[0]["q"], 3)
        self.assertEqual(list(cubes), ["q", "p"])


if __name__ == "__main__":
    unittest.main()
