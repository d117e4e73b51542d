"""days.py: point 3.3."""

import random
import unittest

from tests.samples import Case, ODD_VALUES, fork, fork_rights, many_rights, some_cubes
from weirkeepers.days import Day
from weirkeepers.errors import NoRight, NotDay, NoWeir
from weirkeepers.rights import Rights
from weirkeepers.springs import Springs

MOST = 10 ** 30
NO_CUBES = [-1, MOST + 1, True, False, None, "1", [1], (1,), "", [], ()]
NO_KEYS = ["e", "zz", "", "A", None, True, 0, 7, (), ("p",), (1, ("a",))]


def some_day():
    return Day(fork_rights(), {"p": 1, "q": MOST}, {"d": 3, "a": MOST - 1, "c": 5}, call=2, water=4)


class DayTest(Case):

    def test_numbers(self):
        day = some_day()
        self.assertEqual(day.rights, fork_rights())
        self.assertEqual([day.call(name) for name in day.rights], [1, MOST, 2, 2, 2])
        self.assertEqual([day.water(weir) for weir in fork()], [MOST - 1, 4, 5, 3])
        self.assertEqual(day.calls(), {"p": 1, "q": MOST, "r": 2, "s": 2, "sea": 2})
        self.assertEqual(day.waters(), {"a": MOST - 1, "b": 4, "c": 5, "d": 3})
        self.assertEqual((list(day.calls()), list(day.waters())), (list(fork_rights()), list(fork())))

    def test_zero_where_left_out(self):
        day = Day(fork_rights(), {}, {})
        self.assertEqual(set(day.calls().values()) | set(day.waters().values()), {0})
        self.assertEqual(Day(fork_rights(), {}, {}, call=MOST, water=MOST).water("a"), MOST)
        self.assertEqual(Day(Rights(fork(), []), {}, {}).calls(), {})
        with self.assertRaises(TypeError):
            Day(fork_rights(), {}, {}, 0, 0)

    def test_wrong_numbers_for_those_left_out_come_first(self):
        for value in NO_CUBES:
            self.fails(NotDay(None), Day, fork_rights(), {"zz": 1}, {"zz": 1}, call=value)
            self.fails(NotDay(None), Day, fork_rights(), {"zz": 1}, {"zz": 1}, water=value)

    def test_the_first_wrong_key(self):
        for value in NO_CUBES:
            self.fails(NotDay("q"), Day, fork_rights(), {"p": 1, "q": value, "r": -1, "zz": 1}, {"zz": 1})
            self.fails(NotDay("c"), Day, fork_rights(), {"p": 1}, {"d": 1, "c": value, "b": -1, "zz": 1})
        for key in NO_KEYS:
            self.fails(NotDay(key), Day, fork_rights(), {"q": 1, key: 1, "p": -1}, {"zz": 1})
            self.fails(NotDay(key), Day, fork_rights(), {"q": 1}, {"d": 1, key: 1, "c": -1})
        self.fails(NotDay("a"), Day, fork_rights(), {"a": 1}, {})
        self.fails(NotDay("p"), Day, fork_rights(), {}, {"p": 1})
        self.fails(NotDay("sea"), Day, fork_rights(), {"sea": 1}, {"sea": 1})

    def test_of_springs(self):
        springs = Springs(fork(), {"d": 5, "a": 1}, {"c": 2})
        day = Day.of(fork_rights(), {"q": 3}, springs)
        self.assertEqual(day, Day(fork_rights(), {"q": 3}, {"a": 6, "c": 3, "d": 5}))
        great = Springs(fork(), {"d": MOST, "b": MOST + 1, "a": MOST}, {"b": 1, "a": MOST + 1})
        self.fails(NotDay("a"), Day.of, fork_rights(), {}, great)
        self.fails(NotDay("c"), Day.of, fork_rights(), {}, Springs(fork(), {"d": MOST + 1}, {"a": 1}))
        self.fails(NotDay("zz"), Day.of, fork_rights(), {"p": 1, "zz": 1, "q": -1}, great)
        self.fails(NotDay("q"), Day.of, rights=fork_rights(), calls={"q": -1}, springs=great)
        self.assertEqual(Day.of(fork_rights(), {}, Springs(fork(), {"a": MOST}, {})).water("a"), MOST)

    def test_unknown_names(self):
        day = some_day()
        for value in ODD_VALUES + ["a", "zz"]:
            self.fails(NoRight(value), day.call, value)
            self.fails(NoRight(value), day.with_call, value, -1)
            self.fails(NoRight(value), day.only, "p", value, "nobody")
        for value in ODD_VALUES + ["p", "sea"]:
            self.fails(NoWeir(value), day.water, value)
            for method in [day.with_water, day.rained, day.widened]:
                self.fails(NoWeir(value), method, value, -1)

    def test_within(self):
        day = some_day()
        self.assertIs(day.within(some_day()), True)
        self.assertIs(day.within(day.with_call("q", MOST - 1)), False)
        self.assertIs(day.with_call("q", 0).within(day), True)
        self.assertIs(day.within(day.with_water("d", 2)), False)
        self.assertIs(day.within(day.with_water("d", 4).with_call("p", 9)), True)
        self.assertIs(day.with_water("d", 4).within(day.with_call("p", 9)), False)

    def test_one_number_changed(self):
        day = some_day()
        self.assertEqual(day.with_call("r", 0), Day(day.rights, day.calls() | {"r": 0}, day.waters()))
        self.assertEqual(day.with_call("sea", MOST).call("sea"), MOST)
        self.assertEqual(day.with_water("b", MOST), Day(day.rights, day.calls(), day.waters() | {"b": MOST}))
        for value in NO_CUBES:
            self.fails(NotDay("r"), day.with_call, "r", value)
            self.fails(NotDay("b"), day.with_water, weir="b", cubes=value)
        self.assertEqual(day, some_day())

    def test_only(self):
        day = some_day()
        self.assertEqual(day.only("s", "p", "s").calls(), {"p": 1, "q": 0, "r": 0, "s": 2, "sea": 0})
        self.assertEqual(set(day.only().calls().values()), {0})
        self.assertEqual(day.only("p").waters(), day.waters())
        self.assertEqual(day.only(*day.rights.names), day)

    def test_rain_and_widening(self):
        day = some_day()
        self.assertEqual(day.rained("d", 1).waters(), {"a": MOST, "b": 4, "c": 6, "d": 4})
        self.assertEqual(day.rained("b", 1).waters(), {"a": MOST, "b": 5, "c": 5, "d": 3})
        self.assertEqual(day.widened("d", 7).waters(), {"a": MOST - 1, "b": 4, "c": 5, "d": 10})
        self.assertEqual((day.rained("d", 0), day.widened("a", 0)), (day, day))
        self.assertEqual(day.widened("a", 1).water("a"), MOST)
        self.assertEqual(day.rained("d", 1).calls(), day.calls())
        self.assertEqual(day.widened("b", MOST - 4).water("b"), MOST)
        for value in NO_CUBES:
            self.fails(NotDay("d"), day.rained, "d", value)
            self.fails(NotDay("d"), day.widened, "d", value)
        self.fails(NotDay("a"), day.rained, "d", 2)
        self.fails(NotDay("c"), day.rained, "d", MOST - 4)
        self.fails(NotDay("d"), day.rained, "d", MOST - 2)
        self.fails(NotDay("a"), day.widened, "a", 2)
        self.fails(NotDay("b"), day.widened, "b", MOST - 3)
        self.assertEqual(day, some_day())

    def test_equality(self):
        day = some_day()
        self.assertTrue(day == some_day())
        fewer = Rights(fork(), fork_rights().rows()[::-1])
        self.equals_nothing_else(day, Day(fewer, day.calls(), day.waters()), day.with_call("p", 2),
                                 day.with_water("b", 5), day.rights, day.calls())

    def test_arguments_and_answers_are_copied(self):
        calls, waters = {"q": 1}, {"a": 1}
        day = Day(fork_rights(), calls, waters)
        calls["q"] = waters["a"] = 9
        day.calls()["q"] = 9
        day.waters()["a"] = 9
        self.assertEqual(day, Day(fork_rights(), {"q": 1}, {"a": 1}))
        self.assertEqual((calls, waters), ({"q": 9}, {"a": 9}))

    def test_rain_against_the_definition(self):
        dice = random.Random(31)
        for rights in many_rights(40):
            day = Day(rights, some_cubes(dice, rights), some_cubes(dice, rights.river), call=1, water=2)
            for weir in rights.river:
                course = rights.river.course(weir)
                rained = {low: day.water(low) + 3 * (low in course) for low in rights.river}
                self.assertEqual(day.rained(weir, 3), Day(rights, day.calls(), rained))
                self.assertTrue(day.within(day.rained(weir, 3)))


if __name__ == "__main__":
    unittest.main()
