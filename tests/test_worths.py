"""worths.py: points 8.1 and 8.2."""

import random
import unittest

from tests.samples import (Case, ODD_VALUES, fitting, fork_rights, many_rights, one_weir, some_cubes, some_day,
                           some_worths)
from weirkeepers.days import Day
from weirkeepers.errors import NoRight, NotWorths, NoWeir
from weirkeepers.sharings import Sharing
from weirkeepers.worths import Worths, ceiling, rent, way_price

MOST = 10 ** 12
NAMES = ("p", "q", "r", "s", "sea")


def all_worth(rights, worth=1):
    """The same worth for each right."""
    return {name: worth for name in rights}


class WorthsTest(Case):

    def test_worths_in_the_order_of_rights(self):
        worths = Worths(worths={"sea": 5, "s": 4, "r": 3, "q": 2, "p": MOST}, rights=fork_rights())
        self.assertEqual(worths.rights, fork_rights())
        self.assertEqual(list(worths), [("p", MOST), ("q", 2), ("r", 3), ("s", 4), ("sea", 5)])
        self.assertEqual((len(worths), worths["p"], worths["sea"]), (5, MOST, 5))
        self.assertEqual((len(Worths(one_weir(), {})), list(Worths(one_weir(), {}))), (0, []))

    def test_the_first_wrong_key_in_the_order_of_the_dict(self):
        rights = fork_rights()
        for wrong in [None, True, False, 0, -1, MOST + 1, "1", (), [], 10 ** 39]:
            self.fails(NotWorths("r"), Worths, rights, {"r": wrong, "zz": 1})
            self.fails(NotWorths("s"), Worths, rights, {**all_worth(rights), "s": wrong})
        for key in [None, True, 0, "a", "d", "", ("p",), (None, 1), 10 ** 39]:
            self.fails(NotWorths(key), Worths, rights, {key: 1, "p": 0})
            self.fails(NotWorths("p"), Worths, rights, {"p": 0, key: 1})
            self.fails(NotWorths(key), Worths, rights, {**all_worth(rights), key: 1})

    def test_a_wrong_key_before_a_right_that_is_missing(self):
        rights = fork_rights()
        self.fails(NotWorths("sea"), Worths, rights, {"q": 1, "sea": 0})
        self.fails(NotWorths("zz"), Worths, rights, {"zz": 1})
        self.fails(NotWorths("p"), Worths, rights, {})
        self.fails(NotWorths("r"), Worths, rights, {"sea": 1, "s": 1, "q": 1, "p": 1})

    def test_any_value_as_a_name(self):
        rights = one_weir("b", "c")
        worths = Worths(rights, {"b": 1, "c": 2})
        for value in ODD_VALUES + ["w"]:
            self.fails(NoRight(value), lambda: worths[value])
        self.assertEqual(worths["c"], 2)

    def test_worth_of(self):
        rights = fork_rights()
        worths = Worths(rights, {"p": 3, "q": MOST, "r": 1, "s": 7, "sea": 2})
        self.assertEqual(worths.worth_of(Sharing(rights, {})), 0)
        self.assertEqual(worths.worth_of(Sharing(rights, {"p": 2, "q": 10 ** 30, "s": 1})), 10 ** 42 + 13)

    def test_equality(self):
        rights = one_weir("b", "c")
        worths = Worths(rights, {"b": 1, "c": 2})
        self.assertEqual(worths, Worths(one_weir("b", "c"), {"c": 2, "b": 1}))
        self.equals_nothing_else(worths, Worths(rights, {"b": 1, "c": 3}), Worths(one_weir("c", "b"), {"b": 1, "c": 2}),
                                 {"b": 1, "c": 2}, Sharing(rights, {"b": 1, "c": 2}))

    def test_a_later_change_of_the_argument(self):
        passed = {"b": 1, "c": 2}
        worths = Worths(one_weir("b", "c"), passed)
        self.assertEqual(passed, {"b": 1, "c": 2})
        passed["b"] = 9
        passed["zz"] = 1
        self.assertEqual(list(worths), [("b", 1), ("c", 2)])
        list(worths).clear()
        self.assertEqual(list(worths), [("b", 1), ("c", 2)])


class PricesTest(Case):

    def test_way_prices(self):
        rights = fork_rights()
        prices = {"a": 2, "d": 5, "c": 10}
        self.assertEqual([way_price(rights, prices, name) for name in NAMES], [15, 12, 0, 2, 5])
        self.assertEqual([way_price(name=name, prices={}, rights=rights) for name in NAMES], [0] * 5)
        self.assertEqual(way_price(rights, {"a": 10 ** 40}, "q"), 10 ** 40)

    def test_rents(self):
        rights = fork_rights()
        worths = Worths(rights, {"p": 15, "q": 20, "r": 3, "s": 1, "sea": 6})
        prices = {"a": 2, "d": 5, "c": 10}
        self.assertEqual([rent(worths, prices, name) for name in NAMES], [0, 8, 3, 0, 1])
        self.assertEqual([rent(worths=worths, prices={}, name=name) for name in NAMES], [15, 20, 3, 1, 6])

    def test_the_ceiling(self):
        rights = fork_rights()
        worths = Worths(rights, {"p": 15, "q": 20, "r": 3, "s": 1, "sea": 6})
        day = Day(rights, {"p": 1, "q": 2, "r": 3, "s": 4, "sea": 5}, {"a": 1, "b": 10, "c": 100, "d": 1000})
        self.assertEqual(ceiling(day, worths, {}), 15 + 40 + 9 + 4 + 30)
        self.assertEqual(ceiling(day, worths, {"a": 2, "d": 5, "c": 10}), 2 + 5000 + 1000 + 16 + 9 + 5)
        self.assertEqual(ceiling(prices={"b": 1}, worths=worths, day=day), 10 + 15 + 40 + 6 + 0 + 30)
        empty = Day(one_weir(), {}, {"w": 7})
        self.assertEqual(ceiling(empty, Worths(one_weir(), {}), {"w": 3}), 21)

    def test_unknown_names(self):
        rights = one_weir("b", "c")
        worths = Worths(rights, {"b": 1, "c": 2})
        day = Day(rights, {}, {})
        for value in ODD_VALUES + ["w"]:
            self.fails(NoRight(value), way_price, rights, {"w": 1}, value)
            self.fails(NoRight(value), rent, worths, {}, value)
        for key in ["b", "", None, 1, ("w",)]:
            self.fails(NoWeir(key), way_price, rights, {"w": 1, key: 1}, "b")
            self.fails(NoWeir(key), rent, worths, {key: 1}, "b")
            self.fails(NoWeir(key), ceiling, day, worths, {key: 1})

    def test_no_sharing_that_fits_is_worth_more_than_the_ceiling(self):
        dice = random.Random(5)
        for rights in many_rights(60, 4, 4):
            day = some_day(dice, rights, 2)
            worths = some_worths(dice, rights)
            for _ in range(3):
                prices = some_cubes(dice, rights.river.weirs, 9)
                passed = dict(prices)
                most = ceiling(day, worths, prices)
                self.assertEqual(prices, passed)
                self.assertTrue(all(worths.worth_of(sharing) <= most for sharing in fitting(day)))
                way = [sum(prices.get(weir, 0) for weir in rights.way(name)) for name in rights]
                self.assertEqual(most, sum(prices[weir] * day.water(weir) for weir in prices) + sum(
                    day.call(name) * max(0, worths[name] - price) for name, price in zip(rights, way)))


if __name__ == "__main__":
    unittest.main()
