"""best.py: points 8.3 and 8.4."""

import random
import unittest

from tests.samples import (Case, ODD_VALUES, fitting, fork_rights, long_river, many_rights, name_of, one_weir,
                           some_day, some_worths)
from weirkeepers.best import Best, best, flaw, price_range
from weirkeepers.days import Day
from weirkeepers.errors import NoWeir
from weirkeepers.rights import Rights
from weirkeepers.rivers import River
from weirkeepers.sharings import Sharing, unfit
from weirkeepers.worths import Worths, ceiling, rent, way_price

MUCH = 10 ** 30


def drawn(count, most_weirs=5, most=5, cubes=3):
    """A list of (dice, day, worths), always the same ones."""
    dice = random.Random(count)
    rows = []
    for rights in many_rights(count, most_weirs, most):
        rows.append((dice, some_day(dice, rights, cubes), some_worths(dice, rights)))
    return rows


def greatest(day, worths):
    """The greatest worth of a small day, by trying all sharings that fit."""
    return max(worths.worth_of(sharing) for sharing in fitting(day))


def plain_flaw(day, worths, sharing, prices):
    """The flaw by the words of the interface."""
    rights = day.rights
    if unfit(day, sharing) is not None:
        return unfit(day, sharing)
    for weir in rights.river:
        price = prices.get(weir, 0)
        if not isinstance(price, int) or isinstance(price, bool) or price < 0:
            return ("price", weir)
        if price > 0 and sharing.use(weir) != day.water(weir):
            return ("price", weir)
    for name in rights:
        way = way_price(rights, prices, name)
        if sharing[name] < day.call(name) and way < worths[name]:
            return ("short", name)
        if sharing[name] >= 1 and way > worths[name]:
            return ("over", name)
    return None


class BestTest(Case):

    def test_two_rights_against_one(self):
        river = River([("up", "low"), ("low", "sea")])
        rights = Rights(river, [("a", "up", "up"), ("b", "low", "sea"), ("c", "up", "sea")])
        day = Day(rights, {}, {}, call=2, water=2)
        for worth, cubes, value in [(6, {"a": 2, "b": 2, "c": 0}, 14), (8, {"a": 0, "b": 0, "c": 2}, 16)]:
            worths = Worths(rights, {"a": 3, "b": 4, "c": worth})
            found = best(day, worths)
            self.assertIsInstance(found, Best)
            self.assertIsInstance(found.sharing, Sharing)
            self.assertEqual((found.sharing.cubes(), found.value), (cubes, value))
            self.assertEqual(ceiling(day, worths, found.prices()), value)
            self.assertIsNone(flaw(day, worths, found.sharing, found.prices()))

    def test_prices_and_rents(self):
        rights = one_weir("a", "b", "c")
        worths = Worths(rights, {"a": 5, "b": 9, "c": 7})
        found = best(worths=worths, day=Day(rights, {"a": 3, "b": 2, "c": 3}, {"w": 4}))
        self.assertEqual((found.sharing.cubes(), found.value), ({"a": 0, "b": 2, "c": 2}, 32))
        self.assertEqual((found.prices(), found.rents()), ({"w": 7}, {"a": 0, "b": 2, "c": 0}))
        self.assertEqual(list(found.rents()), ["a", "b", "c"])

    def test_against_all_sharings_that_fit(self):
        for _, day, worths in drawn(250):
            found = best(day, worths)
            sharings = fitting(day)
            self.assertIn(found.sharing, sharings)
            self.assertEqual(found.value, max(worths.worth_of(sharing) for sharing in sharings))
            self.assertEqual(found.value, worths.worth_of(found.sharing))
            prices = found.prices()
            self.assertEqual((list(prices), list(found.rents())), (list(day.rights.river), list(day.rights.names)))
            self.assertEqual(found.rents(), {name: rent(worths, prices, name) for name in day.rights})
            self.assertEqual(ceiling(day, worths, prices), found.value)
            for sharing in sharings:
                self.assertEqual(flaw(day, worths, sharing, prices) is None, worths.worth_of(sharing) == found.value)

    def test_numbers_of_any_size(self):
        dice = random.Random(8)
        for rights in many_rights(60):
            sizes = [0, 1, 10 ** 15, MUCH - 1, MUCH]
            day = Day(rights, {name: dice.choice(sizes) for name in rights},
                      {weir: dice.choice(sizes) for weir in rights.river})
            worths = some_worths(dice, rights, 10 ** 12)
            found = best(day, worths)
            self.assertIsNone(flaw(day, worths, found.sharing, found.prices()))
            self.assertEqual(found.value, ceiling(day, worths, found.prices()))

    def test_somewhat_beyond_small_rivers(self):
        dice = random.Random(9)
        rights = Rights(long_river(), [(name_of(number), name_of(dice.randint(0, 39)), "sea") for number in range(20)])
        day = Day(rights, {name: dice.randint(0, 9) for name in rights},
                  {weir: dice.randint(0, 99) for weir in rights.river})
        worths = some_worths(dice, rights)
        found = best(day, worths)
        self.assertIsNone(flaw(day, worths, found.sharing, found.prices()))

    def test_without_rights(self):
        rights = Rights(fork_rights().river, [])
        found = best(Day(rights, {}, {}, water=3), Worths(rights, {}))
        self.assertEqual((found.sharing.cubes(), found.value, found.rents()), ({}, 0, {}))
        self.assertIsNone(flaw(Day(rights, {}, {}, water=3), Worths(rights, {}), found.sharing, found.prices()))

    def test_equal_arguments_give_equal_results(self):
        for _, day, worths in drawn(40):
            again = Worths(day.rights, dict(reversed(list(worths))))
            twin = Day(day.rights, dict(reversed(day.calls().items())), day.waters())
            one = best(day, worths)
            other = best(twin, again)
            self.assertTrue(one == other and not one != other)
            self.assertEqual((one.sharing, one.value, one.prices()), (other.sharing, other.value, other.prices()))

    def test_equality(self):
        rights = one_weir("a", "b")
        worths = Worths(rights, {"a": 5, "b": 9})
        found = best(Day(rights, {"a": 3, "b": 2}, {"w": 4}), worths)
        same = best(Day(rights, {"a": 4, "b": 2}, {"w": 4}), worths)
        self.assertEqual(found, same)
        others = [best(Day(rights, {"a": 3, "b": 2}, {"w": 3}), worths),
                  best(Day(rights, {"a": 3, "b": 2}, {"w": 4}), Worths(rights, {"a": 4, "b": 9})),
                  best(Day(one_weir("b", "a"), {"a": 3, "b": 2}, {"w": 4}), Worths(one_weir("b", "a"), dict(worths)))]
        for a, b in [(6, 8), (5, 10)]:
            others.append(best(Day(rights, {"a": 3, "b": 2}, {"w": 4}), Worths(rights, {"a": a, "b": b})))
            self.assertEqual(others[-1].sharing, found.sharing)
        self.assertEqual((others[-2].value, others[-1].prices()), (found.value, found.prices()))
        self.equals_nothing_else(found, found.sharing, *others)

    def test_results_are_new(self):
        rights = one_weir("a", "b")
        found = best(Day(rights, {"a": 3, "b": 2}, {"w": 4}), Worths(rights, {"a": 5, "b": 9}))
        found.prices().clear()
        found.rents().clear()
        self.assertEqual((found.prices(), found.rents()), ({"w": 5}, {"a": 0, "b": 4}))


class FlawTest(Case):

    def test_each_sort_in_its_order(self):
        river = River([("up", "low"), ("low", "sea")])
        rights = Rights(river, [("a", "up", "up"), ("b", "low", "sea"), ("c", "up", "sea")])
        day = Day(rights, {"a": 1, "b": 2, "c": 3}, {"up": 3, "low": 4})
        worths = Worths(rights, {"a": 3, "b": 4, "c": 6})

        def told(cubes, **prices):
            return flaw(day, worths, Sharing(rights, cubes), prices)

        fine = {"a": 1, "b": 2, "c": 2}
        self.assertEqual(told({"a": 2, "c": 9}, up=None), ("call", "a"))
        self.assertEqual(told({"b": 2, "c": 3}, low=-1), ("weir", "low"))
        for wrong in [None, True, False, "3", (), [0], -1]:
            self.assertEqual(told(fine, up=wrong, low=-1), ("price", "up"))
            self.assertEqual(told(fine, up=3, low=wrong), ("price", "low"))
        self.assertEqual(told({"a": 1, "b": 2, "c": 1}, up=3, low=3), ("price", "up"))
        self.assertEqual(told({"a": 1, "b": 1, "c": 2}, up=3, low=3), ("price", "low"))
        self.assertEqual(told(fine, up=2, low=3), ("short", "c"))
        self.assertEqual(told(fine, up=3, low=4), ("over", "c"))
        self.assertEqual(told(fine, up=4, low=3), ("over", "a"))
        self.assertEqual(told(fine, low=5, up=2), ("over", "b"))
        self.assertEqual(told({"b": 1, "c": 3}, low=4), ("short", "a"))
        self.assertIsNone(told(fine, up=3, low=3))
        self.assertIsNone(told(fine, up=2, low=4))
        self.assertEqual(told({}), ("short", "a"))

    def test_keys_that_are_no_weirs(self):
        rights = one_weir("a", "b")
        day = Day(rights, {}, {}, call=1)
        worths = Worths(rights, {"a": 1, "b": 1})
        for key in ["a", "", None, 1, ("w",), "sea"]:
            self.fails(NoWeir(key), flaw, day, worths, Sharing(rights, {"a": 9}), {"w": None, key: 0, "zz": 1})
        self.fails(NoWeir("zz"), flaw, day, worths, Sharing(rights, {}), {"zz": 1, "yy": 1})

    def test_by_the_words(self):
        sorts = set()
        for dice, day, worths in drawn(150, 3, 3, 2):
            names = day.rights.names
            for _ in range(10):
                cubes = {name: dice.randint(0, 2) for name in names}
                if dice.random() < 0.7:
                    cubes = dice.choice(fitting(day)).cubes()
                prices = {weir: dice.choice([0, 0, dice.randint(-1, 9)]) for weir in day.rights.river}
                sharing = Sharing(day.rights, cubes)
                found = flaw(day, worths, sharing, prices)
                self.assertEqual(found, plain_flaw(day, worths, sharing, prices))
                sorts.add(found and found[0])
        self.assertEqual(sorts, {None, "call", "weir", "price", "short", "over"})


class PriceRangeTest(Case):

    def test_one_weir(self):
        rights = one_weir("a", "b", "c")
        worths = Worths(rights, {"a": 5, "b": 9, "c": 7})
        for water, wanted in [(0, (9, None)), (1, (9, 9)), (2, (7, 9)), (3, (7, 7)), (5, (5, 7)), (8, (0, 5)),
                              (9, (0, 0)), (MUCH, (0, 0))]:
            day = Day(rights, {"a": 3, "b": 2, "c": 3}, {"w": water})
            self.assertEqual(price_range(day, worths, "w"), wanted, water)

    def test_as_much_water_as_can_be(self):
        rights = one_weir("a", "b")
        worths = Worths(rights, {"a": 5, "b": 9})
        self.assertEqual(price_range(Day(rights, {}, {}, call=MUCH, water=MUCH), worths, "w"), (5, 9))
        self.assertEqual(price_range(Day(rights, {"a": 1}, {}, call=MUCH, water=MUCH), worths, "w"), (5, 9))
        self.assertEqual(price_range(Day(rights, {"a": 1}, {}, call=MUCH - 1, water=MUCH), worths, "w"), (0, 5))
        self.assertEqual(price_range(Day(rights, {"a": 0}, {}, call=MUCH, water=MUCH), worths, "w"), (0, 9))

    def test_against_one_cube_more_and_one_less(self):
        pairs_found = set()
        for _, day, worths in drawn(150, 4, 4, 3):
            value = greatest(day, worths)
            for weir in day.rights.river:
                least, most = price_range(day, worths, weir)
                pairs_found.add((least == most, most is None))
                self.assertEqual(least, greatest(day.widened(weir, 1), worths) - value)
                if day.water(weir) == 0:
                    self.assertIsNone(most)
                else:
                    fewer = day.with_water(weir, day.water(weir) - 1)
                    self.assertEqual(most, value - greatest(fewer, worths))
        self.assertEqual(pairs_found, {(True, False), (False, False), (False, True)})

    def test_large_numbers_against_best(self):
        dice = random.Random(10)
        for rights in many_rights(40, 6, 8):
            sizes = [0, 1, 2, 10 ** 20, MUCH - 1]
            day = Day(rights, {name: dice.choice(sizes) for name in rights},
                      {weir: dice.choice(sizes) for weir in rights.river})
            worths = some_worths(dice, rights, 10 ** 12)
            value = best(day, worths).value
            for weir in rights.river:
                least, most = price_range(day, worths, weir)
                self.assertEqual(least, best(day.widened(weir, 1), worths).value - value)
                if most is not None:
                    fewer = day.with_water(weir, day.water(weir) - 1)
                    self.assertEqual(most, value - best(fewer, worths).value)
                self.assertEqual(most is None, day.water(weir) == 0)

    def test_without_rights_and_unknown_weirs(self):
        rights = one_weir()
        worths = Worths(rights, {})
        self.assertEqual(price_range(Day(rights, {}, {}), worths, "w"), (0, None))
        self.assertEqual(price_range(weir="w", worths=worths, day=Day(rights, {}, {}, water=MUCH)), (0, 0))
        for value in ODD_VALUES:
            self.fails(NoWeir(value), price_range, Day(rights, {}, {}), worths, value)


if __name__ == "__main__":
    unittest.main()
