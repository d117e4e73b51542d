"""twobooks.py: point 9.6."""

import random
import unittest

from tests.samples import (Case, ODD_VALUES, example, far, fork_rights, many_rights, one_weir, some_book,
                           some_day, some_orders, some_promises, unlike)
from weirkeepers.books import Book
from weirkeepers.days import Day
from weirkeepers.errors import NotBook, TooMany
from weirkeepers.listing import settled_sharings
from weirkeepers.promises import Promise
from weirkeepers.rights import Rights
from weirkeepers.sharings import Sharing
from weirkeepers.twobooks import Parting, agree, differences, is_difference, parted, same_on, turning

NO_TWIN = NotBook("rights", None, None)


def two_books(count, most_weirs=4, most=5):
    """A list of (dice, book, other book of equal rights), some of which agree."""
    dice = random.Random(count)
    rows = []
    for rights in many_rights(count, most_weirs, most):
        book = some_book(dice, rights)
        rows.append((dice, book, dice.choice([some_book(dice, rights), rewritten(book)])))
    return rows


def rewritten(book):
    """A book that agrees with this one: its orders are turned about, and promises tell all that goes ahead."""
    orders = {weir: order[::-1] for weir, order in book.orders().items()}
    promises = [Promise(name, other, weir) for weir in orders for name in orders[weir]
                for other in book.ahead_at(weir, name)]
    return Book(book.rights, orders, promises)


class DifferencesTest(Case):

    def test_their_order(self):
        rights = fork_rights()
        orders = {"a": ["q", "s"], "b": ["r", "s"], "c": ["p", "q"], "d": ["p", "sea"]}
        book = Book(rights, orders)
        other = Book(rights, {"a": ["s", "q"], "b": ["r", "s"], "c": ["p", "q"], "d": ["sea", "p"]},
                     [Promise("p", "q"), Promise("r", "s")])
        self.assertEqual(differences(book, other), [("a", "q", "s"), ("b", "r", "s"), ("c", "p", "q"),
                                                    ("d", "p", "sea")])
        self.assertEqual(differences(other=book, book=other), differences(book, other))
        rights = one_weir("c", "a", "b")
        self.assertEqual(differences(Book.alike(rights, "abc"), Book.alike(rights, "cba")),
                         [("w", "c", "a"), ("w", "c", "b"), ("w", "a", "b")])

    def test_books_written_otherwise_that_agree(self):
        rights = one_weir("a", "b", "c")
        book = Book.alike(rights, "abc")
        for other in [book, Book.alike(rights, "abc", [Promise("b", "a")]), rewritten(book),
                      Book.alike(rights, "acb", [Promise("c", "b", "w")])]:
            self.assertEqual((agree(book, other), differences(book, other)), (True, []))
            self.assertEqual((parted(book, other), turning(book, other)), (None, ()))
        self.assertFalse(agree(book, Book.alike(rights, "acb")))
        self.assertFalse(agree(other=Book.alike(rights, "cab"), book=book))

    def test_unequal_rights(self):
        book = Book.alike(one_weir("a", "b"), "ab")
        for rights in [one_weir("b", "a"), Rights(book.river, [("a", "w", "w"), ("b", "w", "sea")])]:
            other = Book.alike(rights, "ab")
            for call in [differences, agree, parted, turning]:
                self.fails(NO_TWIN, call, book, other)
            self.fails(NO_TWIN, is_difference, book, other, None)
            self.fails(NO_TWIN, same_on, book, other, Day(book.rights, {}, {}))

    def test_by_the_words(self):
        for _, book, other in two_books(150):
            names = book.rights.names
            wanted = [(weir, one, two) for weir in book.river for one in names for two in names
                      if names.index(one) < names.index(two) and one in book.rights.passing(weir)
                      and two in book.rights.passing(weir)
                      and book.goes_ahead(weir, one, two) != other.goes_ahead(weir, one, two)]
            self.assertEqual(differences(book, other), wanted)
            self.assertEqual(agree(book, other), not wanted)

    def test_results_are_new(self):
        book, other = Book.alike(one_weir("a", "b"), "ab"), Book.alike(one_weir("a", "b"), "ba")
        differences(book, other).clear()
        self.assertEqual(differences(book, other), [("w", "a", "b")])


class PartedTest(Case):

    def test_the_first_difference(self):
        rights = unlike().rights
        book, other = unlike(), Book.alike(rights, "ba", [Promise("b", "a", "low")])
        found = parted(book, other)
        self.assertIsInstance(found, Parting)
        self.assertEqual((found.weir, found.one, found.other), ("up", "a", "b"))
        self.assertEqual(found.day, Day(rights, {"a": 1, "b": 1}, {"up": 1, "low": 2}))
        self.assertEqual((found.first, found.second), (Sharing(rights, {"a": 1}), Sharing(rights, {"b": 1})))

    def test_equality(self):
        values = ["w", "a", "b", 1, 2, 3]
        parting = Parting(*values)
        self.assertEqual(parting, Parting(weir="w", one="a", other="b", day=1, first=2, second=3))
        others = [Parting(*(values[:at] + [None] + values[at + 1:])) for at in range(6)]
        self.equals_nothing_else(parting, tuple(values), *others)

    def test_both_sharings_are_the_only_settled_ones(self):
        several = 0
        for _, book, other in two_books(200):
            found = parted(other=other, book=book)
            if agree(book, other):
                self.assertIsNone(found)
                continue
            several += 1
            self.assertEqual((found.weir, found.one, found.other), differences(book, other)[0])
            self.assertEqual(list(settled_sharings(book, found.day)), [found.first])
            self.assertEqual(list(settled_sharings(other, found.day)), [found.second])
            self.assertEqual(found.day, Day(book.rights, {found.one: 1, found.other: 1}, {found.weir: 1},
                                            water=len(book.rights)))
            ahead = found.one if book.goes_ahead(found.weir, found.one, found.other) else found.other
            self.assertEqual((found.first[ahead], found.second[ahead]), (1, 0))
            self.assertFalse(same_on(book, other, found.day))
        self.assertGreater(several, 40)


class IsDifferenceTest(Case):

    def test_both_orders_and_any_value(self):
        book, other = unlike(), Book.alike(unlike().rights, "ab")
        for thing in [("low", "a", "b"), ("low", "b", "a")]:
            self.assertTrue(is_difference(book, other, thing))
            self.assertTrue(is_difference(other, book, thing))
            self.assertFalse(is_difference(book, other, list(thing)))
            self.assertFalse(is_difference(book, other, thing + ("a",)))
            for place in range(3):
                for value in ODD_VALUES + ["zz", "sea"]:
                    changed = thing[:place] + (value,) + thing[place + 1:]
                    self.assertEqual(is_difference(book, other, changed), changed == thing)
        for thing in ODD_VALUES + [("up", "a", "b"), ("a", "low", "b"), ("low", "a", "a"), ("low", "a")]:
            self.assertFalse(is_difference(thing=thing, book=book, other=other))


class SameOnTest(Case):

    def test_too_many(self):
        book, day = far()
        line = Book.alike(book.rights, "ab")
        number = (10 ** 30 + 1) ** 2
        self.fails(TooMany(number), same_on, book, line, day)
        self.fails(TooMany(number), same_on, line, book, day)
        rows = Rights(book.river, book.rights.rows() + [("c", "up", "sea")])
        last = Book(rows, {"up": ["a", "b", "c"], "low": ["b", "a", "c"]})
        first = Book(rows, {"up": ["c", "a", "b"], "low": ["c", "b", "a"]})
        day = Day(rows, {"c": 64}, {}, call=128, water=128)
        self.fails(TooMany(129 ** 2 * 65), same_on, last, first, day)
        self.fails(TooMany(65 ** 2), same_on, first, last, day)
        turned = Book(book.rights, {"up": ["b", "a"], "low": ["a", "b"]})
        self.assertTrue(same_on(turned, unlike(), example()[1]))

    def test_by_the_words(self):
        found = set()
        for dice, book, other in two_books(200, 4, 4):
            day = some_day(dice, book.rights, 2)
            same = list(settled_sharings(book, day)) == list(settled_sharings(other, day))
            self.assertEqual(same_on(day=day, other=other, book=book), same)
            found.add((same, agree(book, other)))
        self.assertEqual(found, {(True, True), (True, False), (False, False)})


class TurningTest(Case):

    def test_promises(self):
        book, other = unlike(), Book(unlike().rights, {"up": ["b", "a"], "low": ["a", "b"]})
        found = turning(book, other)
        self.assertEqual(found, (Promise("a", "b", "up"), Promise("b", "a", "low")))
        self.assertIsInstance(found, tuple)
        self.assertEqual(turning(other=book, book=other), (Promise("b", "a", "up"), Promise("a", "b", "low")))

    def test_a_book_without_promises_bent_by_them(self):
        dice = random.Random(41)
        for rights in many_rights(120, 5, 5):
            book = Book(rights, some_orders(dice, rights))
            other = Book(rights, some_orders(dice, rights), some_promises(dice, rights))
            promises = turning(book, other)
            self.assertEqual([(row.weir,) + tuple(sorted([row.giver, row.taker], key=rights.names.index))
                              for row in promises], differences(book, other))
            self.assertTrue(agree(book.bent(*promises), other))


if __name__ == "__main__":
    unittest.main()
