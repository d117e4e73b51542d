"""everyday.py: points 8.8 and 8.9."""

import itertools
import random
import unittest
from math import gcd

from tests.samples import (Case, ODD_VALUES, first_books, many_books, one_weir, small_days, some_worths, unlike,
                           wrong_kinds)
from weirkeepers.best import best
from weirkeepers.books import Book
from weirkeepers.days import Day
from weirkeepers.dealing import deal, first_sharing
from weirkeepers.errors import NoRight, NotFirstKind
from weirkeepers.everyday import OrderPrice, cover_day, dearest_cover, is_cover, most_worth_bound, order_price
from weirkeepers.rights import Rights
from weirkeepers.rivers import River
from weirkeepers.sharings import Sharing
from weirkeepers.verdict import need_first
from weirkeepers.worths import Worths


def comb(worths=(5, 3, 4, 4, 2)):
    """A book in which r goes ahead of a, b, c and d, which pass other parts of its way, with worths."""
    river = River([("x", "y"), ("z", "sea"), ("y", "z")])
    rights = Rights(river, [("r", "x", "sea"), ("d", "x", "y"), ("c", "z", "z"), ("b", "x", "x"), ("a", "y", "sea")])
    return Book.alike(rights, ["r", "a", "b", "c", "d"]), Worths(rights, dict(zip("rabcd", worths)))


def plain_cover(book, name, cover):
    """True if the dict is a cover, by the words of the point."""
    rights = book.rights
    for other, weir in cover.items():
        if other not in rights.names or weir not in book.river.weirs or not rights.passes(other, weir):
            return False
        if not rights.passes(name, weir) or not book.goes_ahead(weir, name, other):
            return False
        if any(third != other and third in rights.names and rights.passes(third, weir) for third in cover):
            return False
    return True


def plain_dearest(book, worths, name):
    """The greatest sum of a cover, by trying all sets of rights with all their weirs."""
    most = 0
    for size in range(len(book.rights) + 1):
        for names in itertools.combinations(book.rights.names, size):
            free = [[weir for weir in book.rights.way(other) if book.rights.passes(name, weir)
                     and book.goes_ahead(weir, name, other)
                     and not any(book.rights.passes(third, weir) for third in names if third != other)]
                    for other in names]
            if all(free):
                most = max(most, sum(worths[other] for other in names))
    return most


class CoverTest(Case):

    def test_covers(self):
        book, _ = comb()
        for cover in [{}, {"a": "y"}, {"a": "z"}, {"b": "x"}, {"a": "y", "b": "x"}, {"b": "x", "c": "z"},
                      {"d": "y", "c": "z"}, {"c": "z", "d": "x"}, {"d": "x"}, {"d": "x", "a": "z"}]:
            self.assertTrue(is_cover(book, "r", cover), cover)
        for cover in [{"b": "y"}, {"a": "x"}, {"b": "x", "d": "x"}, {"b": "x", "d": "y", "a": "z"}, {"r": "x"},
                      {"a": "y", "d": "x"}, {"a": "z", "c": "z"}, {"a": "y", "c": "z"}, {"c": "z", "r": "x"}]:
            self.assertFalse(is_cover(book, "r", cover), cover)
        self.assertFalse(is_cover(cover={"r": "x"}, name="b", book=book))
        self.assertTrue(is_cover(book, "b", {"d": "x"}))
        self.assertFalse(is_cover(book, "b", {"d": "y"}))

    def test_keys_and_values_that_are_no_rights_and_no_weirs(self):
        book, _ = comb()
        for value in [None, True, 0, 1, "", "x", "zz", "sea", (), ("a",), ("y", ("z",)), 10 ** 39]:
            self.assertFalse(is_cover(book, "r", {value: "y"}), value)
            self.assertFalse(is_cover(book, "r", {"b": "x", value: "z"}), value)
            self.assertEqual(is_cover(book, "r", {"b": value}), value == "x", value)
        for value in ODD_VALUES + ["x"]:
            if value != "a":
                self.fails(NoRight(value), is_cover, book, value, {})
                self.fails(NoRight(value), cover_day, book, value, {})

    def test_books_of_every_kind(self):
        for book, _ in wrong_kinds():
            weir = book.river.weirs[0]
            self.assertTrue(is_cover(book, "a", {"b": weir}))
            self.assertFalse(is_cover(book, "b", {"a": weir}))
        self.assertTrue(is_cover(unlike(), "b", {"a": "low"}))
        for dice, book, _ in many_books(150, 4, 5):
            names = book.rights.names
            for _ in range(10 if names else 0):
                chosen = dice.sample(names, dice.randint(0, min(3, len(names))))
                cover = {name: dice.choice(book.rights.way(name)) for name in chosen}
                if dice.random() < 0.2:
                    cover[dice.choice(["zz", None])] = dice.choice(book.river.weirs)
                name = dice.choice(names)
                self.assertEqual(is_cover(book, name, cover), plain_cover(book, name, cover))

    def test_the_day_of_a_cover(self):
        book, worths = comb()
        day = cover_day(cover={"c": "z", "b": "x"}, name="r", book=book)
        self.assertEqual(day, Day(book.rights, {"r": 1, "b": 1, "c": 1}, {"x": 1, "y": 5, "z": 1}))
        self.assertEqual(first_sharing(book, day), Sharing(book.rights, {"r": 1}))
        self.assertEqual(best(day, worths).value, 8)
        self.assertEqual(cover_day(book, "b", {}), Day(book.rights, {"b": 1}, {}, water=5))
        self.assertEqual(cover_day(unlike(), "a", {"b": "up"}),
                         Day(unlike().rights, {"a": 1, "b": 1}, {"up": 1, "low": 2}))

    def test_dearest_covers(self):
        book, worths = comb()
        self.assertEqual(dearest_cover(book, worths, "r"), (8, {"c": "z", "b": "x"}))
        self.assertEqual(list(dearest_cover(book, worths, "r")[1]), ["c", "b"])
        self.assertEqual(dearest_cover(name="b", worths=worths, book=book), (2, {"d": "x"}))
        self.assertEqual(dearest_cover(book, worths, "d"), (0, {}))
        self.assertEqual(dearest_cover(*comb((5, 9, 4, 4, 2)), "r"), (13, {"b": "x", "a": dearest_cover(
            *comb((5, 9, 4, 4, 2)), "r")[1]["a"]}))
        self.assertEqual(dearest_cover(*comb((1, 1, 1, 1, 10)), "r")[0], 11)

    def test_the_first_kind_before_the_right(self):
        for book, kind in wrong_kinds():
            worths = Worths(book.rights, {name: 1 for name in book.rights})
            self.fails(NotFirstKind(kind), dearest_cover, book, worths, ["zz"])
            self.fails(NotFirstKind(kind), order_price, book, worths)
            self.fails(NotFirstKind(kind), most_worth_bound, book, worths, Sharing(book.rights, {}))
        book, worths = comb()
        for value in ODD_VALUES + ["x"]:
            if value != "a":
                self.fails(NoRight(value), dearest_cover, book, worths, value)

    def test_dearest_covers_against_all_sets_of_rights(self):
        for dice, book, _ in first_books(200, 5, 6):
            worths = some_worths(dice, book.rights)
            for name in book.rights:
                value, cover = dearest_cover(book, worths, name)
                self.assertEqual(value, plain_dearest(book, worths, name))
                self.assertEqual(value, sum(worths[other] for other in cover))
                self.assertEqual(list(cover), [other for other in book.rights if other in cover])
                self.assertTrue(plain_cover(book, name, cover) and is_cover(book, name, cover))
                day = cover_day(book, name, cover)
                self.assertEqual(first_sharing(book, day), Sharing(book.rights, {name: 1}))
                self.assertEqual(best(day, worths).value, max(worths[name], value))


class OrderPriceTest(Case):

    def test_lowest_terms(self):
        book, worths = comb((6, 4, 5, 5, 1))
        found = order_price(worths=worths, book=book)
        self.assertIsInstance(found, OrderPrice)
        self.assertEqual((found.top, found.bottom, found.name, found.is_free), (5, 3, "r", False))
        self.assertEqual(found.cover(), {"c": "z", "b": "x"})
        self.assertEqual(found.day, cover_day(book, "r", {"c": "z", "b": "x"}))
        found.cover().clear()
        self.assertEqual(found.cover(), {"c": "z", "b": "x"})

    def test_ties_go_to_the_first_right(self):
        rights = one_weir("c", "b", "a", "d")
        worths = Worths(rights, {"a": 2, "b": 1, "c": 4, "d": 2})
        found = order_price(Book.alike(rights, "bdac"), worths)
        self.assertEqual((found.top, found.bottom, found.name, found.cover()), (4, 1, "b", {"c": "w"}))
        worths = Worths(rights, {"a": 2, "b": 2, "c": 4, "d": 2})
        found = order_price(Book.alike(rights, "dabc"), worths)
        self.assertEqual((found.top, found.bottom, found.name, found.cover()), (2, 1, "b", {"c": "w"}))

    def test_one_with_none(self):
        for worths in [(11, 6, 5, 5, 1), (12, 7, 5, 5, 1)]:
            found = order_price(*comb(worths))
            self.assertEqual((found.top, found.bottom, found.name, found.cover(), found.day, found.is_free),
                             (1, 1, None, {}, None, True))
        found = order_price(Book(one_weir(), {}), Worths(one_weir(), {}))
        self.assertEqual((found.top, found.bottom, found.name, found.cover(), found.is_free), (1, 1, None, {}, True))

    def test_large_worths(self):
        rights = one_weir("a", "b")
        found = order_price(Book.alike(rights, "ab"), Worths(rights, {"a": 10 ** 12 - 1, "b": 10 ** 12}))
        self.assertEqual((found.top, found.bottom, found.is_free), (10 ** 12, 10 ** 12 - 1, False))

    def test_on_every_day(self):
        paid = 0
        for dice, book, _ in first_books(90, 3, 4):
            worths = some_worths(dice, book.rights)
            found = order_price(book, worths)
            line = need_first(book)
            self.assertTrue(found.top >= found.bottom >= 1 and gcd(found.top, found.bottom) == 1)
            self.assertEqual(found.is_free, found.top == found.bottom)
            days = list(small_days(book.rights))
            for day in dice.sample(days, min(60, len(days))):
                settled = deal(day, line)
                value = best(day, worths).value
                self.assertGreaterEqual(worths.worth_of(settled) * found.top, value * found.bottom)
                self.assertLessEqual(value, most_worth_bound(book, worths, settled))
            if found.is_free:
                self.assertEqual((found.name, found.day, found.cover()), (None, None, {}))
                continue
            paid += 1
            worth = worths.worth_of(first_sharing(book, found.day))
            self.assertEqual(worth * found.top, best(found.day, worths).value * found.bottom)
            self.assertEqual(found.day, cover_day(book, found.name, found.cover()))
            rows = [(plain_dearest(book, worths, name), worths[name], name) for name in book.rights]
            first = [row for row in rows if all(row[0] * other[1] >= other[0] * row[1] for other in rows)][0]
            self.assertEqual((found.name, found.top * first[1]), (first[2], found.bottom * first[0]))
        self.assertGreater(paid, 10)

    def test_the_bound_of_a_sharing(self):
        book, worths = comb()
        self.assertEqual(most_worth_bound(book, worths, Sharing(book.rights, {"r": 2, "b": 3, "d": 10})), 16 + 12 + 20)
        self.assertEqual(most_worth_bound(sharing=Sharing(book.rights, {}), worths=worths, book=book), 0)
        dice = random.Random(31)
        for _, book, day in first_books(60, 4, 4):
            worths = some_worths(dice, book.rights)
            settled = first_sharing(book, day)
            bound = most_worth_bound(book, worths, settled)
            self.assertEqual(bound, sum(cubes * max(worths[name], plain_dearest(book, worths, name))
                                        for name, cubes in settled))
            self.assertLessEqual(best(day, worths).value, bound)


if __name__ == "__main__":
    unittest.main()
