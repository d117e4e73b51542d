"""sharings.py: point 3.4."""

import random
import unittest

from tests.samples import Case, ODD_VALUES, fork, fork_rights, long_river, many_rights, some_cubes
from weirkeepers.days import Day
from weirkeepers.errors import NoRight, NotSharing, NoWeir
from weirkeepers.rights import Rights
from weirkeepers.sharings import Sharing, fits, unfit

MOST = 10 ** 30
NO_CUBES = [-1, MOST + 1, True, False, None, "1", [1], (1,), "", [], ()]
NO_KEYS = ["a", "zz", "", "A", None, True, 0, 7, (), ("p",), (1, ("a",))]


def some_sharing():
    return Sharing(fork_rights(), {"s": 4, "p": 1, "q": 2})


class SharingTest(Case):

    def test_numbers(self):
        sharing = some_sharing()
        self.assertEqual(sharing.rights, fork_rights())
        self.assertEqual([sharing[name] for name in sharing.rights], [1, 2, 0, 4, 0])
        self.assertEqual(sharing.total, 7)
        self.assertEqual(len(sharing), 5)
        self.assertEqual(list(sharing), [("p", 1), ("q", 2), ("r", 0), ("s", 4), ("sea", 0)])
        self.assertEqual(sharing.cubes(), {"p": 1, "q": 2, "r": 0, "s": 4, "sea": 0})
        self.assertEqual(list(sharing.cubes()), list(fork_rights()))
        self.assertEqual([sharing.use(weir) for weir in fork()], [6, 4, 3, 1])

    def test_without_rights(self):
        sharing = Sharing(Rights(fork(), []), {})
        self.assertEqual((len(sharing), list(sharing), sharing.total, sharing.cubes()), (0, [], 0, {}))
        day = Day(sharing.rights, {}, {"a": 1})
        self.assertEqual((sharing.lacking(day), sharing.full(day)), ((), ("b", "c", "d")))
        self.assertIs(fits(day, sharing), True)

    def test_the_first_wrong_key(self):
        for value in NO_CUBES:
            self.fails(NotSharing("q"), Sharing, fork_rights(), {"s": 1, "q": value, "p": -1, "zz": 1})
        for key in NO_KEYS:
            self.fails(NotSharing(key), Sharing, fork_rights(), {"s": 1, key: 1, "p": -1})
        self.assertEqual(Sharing(fork_rights(), {"p": MOST})["p"], MOST)

    def test_unknown_names(self):
        sharing = some_sharing()
        for value in ODD_VALUES + ["a", "zz"]:
            self.fails(NoRight(value), sharing.__getitem__, value)
        for value in ODD_VALUES + ["p", "sea"]:
            self.fails(NoWeir(value), sharing.use, value)

    def test_sums_above_the_greatest_number_of_cubes(self):
        rights = Rights(long_river(), [(name, name, "sea") for name in long_river()])
        sharing = Sharing(rights, {name: MOST for name in rights})
        self.assertEqual((sharing.use("bn"), sharing.total), (40 * MOST, 40 * MOST))
        day = Day(rights, {}, {}, call=MOST, water=MOST)
        self.assertEqual(sharing.full(day), ("a",))
        self.assertEqual(unfit(day, sharing), ("weir", "b"))

    def test_lacking_and_full(self):
        sharing = some_sharing()
        day = Day(fork_rights(), {"p": 0, "q": 3, "r": 1, "s": 4}, {"a": 6, "b": 3, "c": 4, "d": 1})
        self.assertEqual(sharing.lacking(day), ("q", "r"))
        self.assertEqual(sharing.full(day), ("a", "d"))

    def test_within(self):
        sharing = some_sharing()
        self.assertIs(sharing.within(some_sharing()), True)
        self.assertIs(sharing.within(Sharing(fork_rights(), {"s": 9, "p": 1, "q": 2, "r": 1})), True)
        self.assertIs(sharing.within(Sharing(fork_rights(), {"s": 9, "p": 0, "q": 2, "r": 1})), False)
        self.assertIs(sharing.within(Sharing(fork_rights(), {"s": 3, "p": 1, "q": 2})), False)

    def test_sum(self):
        total = some_sharing() + Sharing(fork_rights(), {"sea": MOST, "p": 2})
        self.assertEqual(total, Sharing(fork_rights(), {"p": 3, "q": 2, "s": 4, "sea": MOST}))
        one = Sharing(fork_rights(), {"r": MOST, "s": MOST})
        self.fails(NotSharing("r"), one.__add__, Sharing(fork_rights(), {"s": 1, "r": 1}))
        self.fails(NotSharing("s"), one.__add__, Sharing(fork_rights(), {"s": MOST, "p": MOST}))
        self.assertEqual(one, Sharing(fork_rights(), {"s": MOST, "r": MOST}))
        with self.assertRaises(TypeError):
            total = one + one.cubes()

    def test_equality(self):
        sharing = some_sharing()
        self.assertTrue(sharing == Sharing(fork_rights(), {"q": 2, "p": 1, "s": 4, "r": 0}))
        turned = Rights(fork(), fork_rights().rows()[::-1])
        self.equals_nothing_else(sharing, Sharing(turned, {"s": 4, "p": 1, "q": 2}), Sharing(fork_rights(), {"s": 4}),
                                 sharing.cubes(), list(sharing), sharing.rights)

    def test_arguments_and_answers_are_copied(self):
        cubes = {"p": 1}
        sharing = Sharing(fork_rights(), cubes)
        cubes["p"] = 2
        sharing.cubes()["p"] = 3
        self.assertEqual(sharing, Sharing(fork_rights(), {"p": 1}))
        self.assertEqual(sharing["p"], 1)


class UnfitTest(Case):

    def test_the_first_right_before_the_first_weir(self):
        sharing = some_sharing()
        day = Day(fork_rights(), {"p": 1, "q": 2, "s": 4}, {"a": 6, "b": 4, "c": 3, "d": 1})
        self.assertIsNone(unfit(day, sharing))
        self.assertIs(fits(day, sharing), True)
        self.assertEqual(unfit(day.with_call("s", 3).with_call("q", 1).with_water("a", 0), sharing), ("call", "q"))
        self.assertEqual(unfit(day.with_water("c", 2).with_water("b", 3), sharing), ("weir", "b"))
        self.assertEqual(unfit(day.with_water("d", 0), sharing), ("weir", "d"))
        self.assertIs(fits(day=day.with_water("d", 0), sharing=sharing), False)
        self.assertIs(fits(day.with_call("p", 0), sharing), False)

    def test_against_the_definitions(self):
        dice = random.Random(41)
        found = []
        for rights in many_rights(80, 4, 4):
            day = Day(rights, some_cubes(dice, rights), some_cubes(dice, rights.river, 9), call=1, water=5)
            sharing = Sharing(rights, some_cubes(dice, rights, 3))
            over = [("call", name) for name in rights if sharing[name] > day.call(name)]
            for weir in rights.river:
                use = sum(sharing[name] for name in rights if weir in rights.way(name))
                self.assertEqual(sharing.use(weir), use)
                self.assertIs(weir in sharing.full(day), use == day.water(weir))
                if use > day.water(weir):
                    over.append(("weir", weir))
            self.assertEqual(unfit(day, sharing), (over + [None])[0])
            self.assertIs(fits(day, sharing), not over)
            found.append((over + [(None,)])[0][0])
            self.assertEqual(sharing.lacking(day), tuple(name for name in rights if sharing[name] < day.call(name)))
        self.assertEqual({"call", "weir", None}, set(found))


if __name__ == "__main__":
    unittest.main()
