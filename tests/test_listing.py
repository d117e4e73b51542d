"""listing.py: points 7.1 to 7.6."""

import inspect
import itertools
import unittest

from tests.samples import (Case, ODD_VALUES, around, example, far, many_books, one_weir, three_ends, two_knots,
                           unlike)
from weirkeepers.books import Book
from weirkeepers.days import Day
from weirkeepers.dealing import first_sharing
from weirkeepers.errors import NoRight, TooMany
from weirkeepers.knots import room, why_none
from weirkeepers.listing import Listing, how_many, settled_sharings
from weirkeepers.promises import Promise
from weirkeepers.rights import Rights
from weirkeepers.settled import is_settled
from weirkeepers.sharings import Sharing

MUCH = 10 ** 30
TWO = [(0, 2), (1, 1), (2, 0)]


def cubes_of(sharings):
    """The cubes of each sharing, as tuples."""
    return [tuple(sharing.cubes().values()) for sharing in sharings]


def plain_settled(book, day):
    """All settled sharings as tuples of cubes, by trying all that fit the calls; None if they are many."""
    names = book.rights.names
    number = 1
    for name in names:
        number *= day.call(name) + 1
    if number > 1500:
        return None
    tries = itertools.product(*[range(day.call(name) + 1) for name in names])
    return [cubes for cubes in tries if is_settled(book, day, Sharing(book.rights, dict(zip(names, cubes))))]


def none_day():
    """A book and a day without a settled sharing."""
    return around(), Day(around().rights, {}, {}, call=1, water=1)


class SettledSharingsTest(Case):

    def test_the_example(self):
        found = list(settled_sharings(*example()))
        self.assertTrue(all(isinstance(sharing, Sharing) for sharing in found))
        self.assertEqual(cubes_of(found), TWO)
        self.assertEqual(how_many(*example()), 3)

    def test_no_one_two_and_many(self):
        self.assertEqual((list(settled_sharings(*none_day())), how_many(*none_day())), ([], 0))
        line = Book.alike(unlike().rights, "ba")
        self.assertEqual(list(settled_sharings(line, far()[1])), [first_sharing(line, far()[1])])
        self.assertEqual((how_many(line, far()[1]), cubes_of(settled_sharings(line, far()[1]))), (1, [(0, MUCH)]))
        day = Day(unlike().rights, {}, {}, call=1, water=1)
        self.assertEqual(cubes_of(settled_sharings(unlike(), day)), [(0, 1), (1, 0)])
        day = Day(unlike().rights, {}, {}, call=63, water=63)
        self.assertEqual(cubes_of(settled_sharings(unlike(), day)), [(cubes, 63 - cubes) for cubes in range(64)])
        self.assertEqual(how_many(day=day, book=unlike()), 64)

    def test_two_knots_ascending(self):
        self.assertEqual(cubes_of(settled_sharings(*two_knots())),
                         [(0, 0, 1, 3, 1), (0, 1, 1, 3, 0), (1, 0, 0, 3, 1), (1, 1, 0, 3, 0)])
        self.assertEqual(how_many(*two_knots()), 4)
        self.assertEqual(cubes_of(settled_sharings(*three_ends())),
                         [(0, 0, 9, 9), (0, 2, 4, 12), (1, 0, 9, 8), (2, 0, 9, 7)])

    def test_large_cubes_in_a_small_room(self):
        book = unlike()
        rights = Rights(book.river, [("c", "up", "up")] + book.rights.rows())
        wide = Book(rights, {"up": "cab", "low": "ba"})
        day = Day(rights, {"c": MUCH - 2, "a": 2, "b": MUCH}, {"up": MUCH, "low": 2})
        self.assertEqual(cubes_of(settled_sharings(wide, day)), [(MUCH - 2, 0, 2), (MUCH - 2, 1, 1), (MUCH - 2, 2, 0)])

    def test_without_rights(self):
        book = Book(one_weir(), {})
        day = Day(book.rights, {}, {})
        self.assertEqual((how_many(book, day), [len(sharing) for sharing in settled_sharings(book, day)]), (1, [0]))

    def test_too_many_when_the_first_is_asked_for(self):
        self.assertTrue(inspect.isgenerator(settled_sharings(*example())))
        asked = settled_sharings(*far())
        self.fails(TooMany((MUCH + 1) ** 2), next, asked)
        self.fails(TooMany((MUCH + 1) ** 2), how_many, *far())
        self.fails(TooMany((MUCH + 1) ** 2), Listing, *far())
        day = Day(unlike().rights, {}, {}, call=64, water=64)
        self.fails(TooMany(4225), list, settled_sharings(unlike(), day))

    def test_by_the_words(self):
        numbers = set()
        for _, book, day in many_books(400, 5, 6, 3):
            found = cubes_of(settled_sharings(book, day))
            numbers.add(len(found))
            self.assertEqual((how_many(book, day), found), (len(found), sorted(found)))
            self.assertEqual(why_none(book, day) is None, bool(found))
            wanted = plain_settled(book, day)
            if wanted is not None:
                self.assertEqual(found, wanted)
            for one, other in itertools.permutations(settled_sharings(book, day), 2):
                self.assertFalse(one.within(other))
        self.assertTrue(numbers >= {0, 1, 2, 3}, numbers)


class ListingTest(Case):

    def test_the_example(self):
        book, day = example()
        listing = Listing(book, day)
        self.assertEqual((listing.rights, listing.day, listing.room, len(listing)), (book.rights, day, 9, 3))
        self.assertEqual((cubes_of(listing), cubes_of(listing)), (TWO, TWO))
        self.assertEqual(cubes_of([listing[place] for place in range(3)]), TWO)
        self.assertEqual(list(listing), list(settled_sharings(book, day)))
        self.assertEqual(len(Listing(day=none_day()[1], book=none_day()[0])), 0)

    def test_in_with_any_value(self):
        book, day = example()
        listing = Listing(book, day)
        for a, b in itertools.product(range(4), repeat=2):
            self.assertIs(Sharing(book.rights, {"a": a, "b": b}) in listing, a + b == 2)
        for value in ODD_VALUES + TWO + [list(TWO), {"a": 1, "b": 1}, listing[0].cubes(), tuple(listing[0])]:
            self.assertIs(value in listing, False)
        other = Rights(book.river, book.rights.rows()[::-1])
        self.assertIs(Sharing(other, {"a": 1, "b": 1}) in listing, False)

    def test_places(self):
        listing = Listing(*two_knots())
        self.assertEqual([listing.places("d", cubes) for cubes in range(3)], [(0, 2), (1, 3), ()])
        self.assertEqual([listing.places(cubes=cubes, name="a") for cubes in range(2)], [(0, 1), (2, 3)])
        self.assertEqual(listing.places("e", 3), (0, 1, 2, 3))
        for value in ODD_VALUES + [[1], (1,), "1", -1, 10 ** 40]:
            if not (isinstance(value, int) and not isinstance(value, bool) and value in (0, 1)):
                self.assertEqual(listing.places("d", value), ())
            if value != "a":
                self.fails(NoRight(value), listing.places, value, 1)
            if value != "a":
                self.fails(NoRight(value), listing.places, value, value)
                self.fails(NoRight(value), Listing(*none_day()).places, value, 1)
        self.assertEqual((listing.places("d", True), listing.places("d", False)), ((), ()))
        self.assertEqual(Listing(*none_day()).places("a", 1), ())

    def test_equality_of_unlike_books(self):
        book, day = example()
        ones = [Listing(book, day), Listing(Book.alike(book.rights, "ab"), day),
                Listing(Book.alike(book.rights, "ba"), day),
                Listing(book, day.with_call("a", 1)), Listing(*two_knots()), Listing(*none_day())]
        for place, listing in enumerate(ones):
            self.equals_nothing_else(listing, *(ones[:place] + ones[place + 1:]), list(listing), tuple(listing))
        turned = Book(book.rights, {"up": "ba", "low": "ab"})
        self.assertFalse(turned == book)
        self.assertTrue(Listing(turned, day) == ones[0])
        self.assertTrue(Listing(book, Day(book.rights, {"b": 2, "a": 2}, {"low": 2, "up": 2})) == ones[0])
        none = Day(book.rights, {"a": 2}, {"low": 2}, water=5)
        one = Book.alike(book.rights, "ab", [Promise("a", "b")])
        self.assertTrue(Listing(one, none) == Listing(book, none))
        self.assertFalse(Listing(one, none) == Listing(book, none.with_water("up", 6)))

    def test_results_are_new(self):
        listing = Listing(*example())
        listing[0].cubes()["a"] = 9
        rows = list(listing)
        rows.clear()
        self.assertEqual((cubes_of(listing), len(listing)), (TWO, 3))

    def test_by_the_words(self):
        for _, book, day in many_books(120, 5, 6, 3):
            listing = Listing(book, day)
            found = list(settled_sharings(book, day))
            self.assertEqual((list(listing), len(listing), listing.room), (found, len(found), room(book, day)))
            for name, cubes in itertools.product(book.rights.names, range(4)):
                wanted = tuple(place for place, sharing in enumerate(found) if sharing[name] == cubes)
                self.assertEqual(listing.places(name, cubes), wanted)
            for place, sharing in enumerate(found):
                self.assertTrue(listing[place] == sharing and sharing in listing)


if __name__ == "__main__":
    unittest.main()
