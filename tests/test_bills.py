"""bills.py: point 8.5."""

import random
import unittest

from tests.samples import Case, fitting, many_rights, one_weir, some_cubes, some_day, some_worths
from weirkeepers.best import best
from weirkeepers.bills import bill
from weirkeepers.days import Day
from weirkeepers.errors import NotSharing, NoWeir
from weirkeepers.rights import Rights
from weirkeepers.rivers import River
from weirkeepers.sharings import Sharing
from weirkeepers.worths import Worths, ceiling, rent, way_price


def small():
    """Rights, a day and worths: a passes up, b low, and c both."""
    river = River([("low", "sea"), ("up", "low")])
    rights = Rights(river, [("c", "up", "sea"), ("a", "up", "up"), ("b", "low", "sea")])
    return rights, Day(rights, {"a": 5, "b": 2, "c": 3}, {"up": 4, "low": 4}), Worths(rights, {"a": 3, "b": 4, "c": 6})


def plain_rows(day, worths, prices, sharing):
    """The rows by the words of the point, also those that are left out."""
    rights = day.rights
    rows = [("idle", weir, day.water(weir) - sharing.use(weir), prices.get(weir, 0)) for weir in rights.river]
    rows += [("unmet", name, day.call(name) - sharing[name], rent(worths, prices, name)) for name in rights]
    return rows + [("dear", name, sharing[name], max(way_price(rights, prices, name) - worths[name], 0))
                   for name in rights]


class BillTest(Case):

    def test_each_sort_of_row_and_their_order(self):
        rights, day, worths = small()
        sharing = Sharing(rights, {"a": 2, "b": 1, "c": 1})
        self.assertEqual(bill(day, worths, {"up": 1, "low": 7}, sharing), [
            ("idle", "low", 2, 7), ("idle", "up", 1, 1), ("unmet", "a", 3, 2), ("dear", "c", 1, 2),
            ("dear", "b", 1, 3)])
        self.assertEqual(bill(sharing=sharing, prices={"up": 2}, worths=worths, day=day), [
            ("idle", "up", 1, 2), ("unmet", "c", 2, 4), ("unmet", "a", 3, 1), ("unmet", "b", 1, 4)])

    def test_rows_left_out(self):
        rights, day, worths = small()
        found = best(day, worths)
        self.assertEqual(bill(day, worths, found.prices(), found.sharing), [])
        self.assertEqual(bill(day, worths, {"up": 99, "low": 99}, Sharing(rights, {})),
                         [("idle", "low", 4, 99), ("idle", "up", 4, 99)])
        self.assertEqual(bill(day, worths, {}, Sharing(rights, {"a": 4})), [
            ("unmet", "c", 3, 6), ("unmet", "a", 1, 3), ("unmet", "b", 2, 4)])
        empty = one_weir()
        self.assertEqual(bill(Day(empty, {}, {"w": 2}), Worths(empty, {}), {"w": 3}, Sharing(empty, {})),
                         [("idle", "w", 2, 3)])

    def test_a_sharing_that_does_not_fit(self):
        rights, day, worths = small()
        for cubes in [{"b": 3}, {"a": 5}, {"c": 2, "b": 2, "a": 3}]:
            self.fails(NotSharing(None), bill, day, worths, {}, Sharing(rights, cubes))

    def test_keys_that_are_no_weirs(self):
        rights, day, worths = small()
        self.fails(NoWeir("a"), bill, day, worths, {"low": 1, "a": 1}, Sharing(rights, {}))

    def test_the_products_add_up(self):
        dice = random.Random(12)
        sorts = set()
        for rights in many_rights(80, 4, 4):
            day = some_day(dice, rights, 3)
            worths = some_worths(dice, rights)
            for sharing in dice.sample(fitting(day), min(6, len(fitting(day)))):
                prices = some_cubes(dice, rights.river.weirs, 9)
                passed = dict(prices)
                rows = bill(day, worths, prices, sharing)
                self.assertEqual(prices, passed)
                self.assertEqual(sum(cubes * each for _, _, cubes, each in rows),
                                 ceiling(day, worths, prices) - worths.worth_of(sharing))
                wanted = plain_rows(day, worths, prices, sharing)
                self.assertEqual(rows, [row for row in wanted if row[2] != 0 and row[3] != 0])
                sorts |= {row[0] for row in rows}
        self.assertEqual(sorts, {"idle", "unmet", "dear"})

    def test_large_numbers_and_new_lists(self):
        rights = one_weir("a")
        day = Day(rights, {}, {}, call=10 ** 30, water=10 ** 30)
        worths = Worths(rights, {"a": 10 ** 12})
        self.assertEqual(bill(day, worths, {"w": 10 ** 12 - 1}, Sharing(rights, {"a": 1})),
                         [("idle", "w", 10 ** 30 - 1, 10 ** 12 - 1), ("unmet", "a", 10 ** 30 - 1, 1)])
        bill(day, worths, {}, Sharing(rights, {})).clear()
        self.assertEqual(len(bill(day, worths, {}, Sharing(rights, {}))), 1)


if __name__ == "__main__":
    unittest.main()
