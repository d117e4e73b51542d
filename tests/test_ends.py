"""ends.py: points 6.9 to 6.11."""

import itertools
import math
import unittest

from tests.samples import (Case, ODD_COLUMNS, W, around, call, many_books, one_weir, right, three_ends, two_day,
                           unlike)
from weirkeepers.books import Book
from weirkeepers.days import Day
from weirkeepers.ends import ends, paired, reached
from weirkeepers.errors import NotColumn, RingError, TooMany
from weirkeepers.promises import Promise
from weirkeepers.rights import Rights
from weirkeepers.rings import rings
from weirkeepers.rivers import River
from weirkeepers.settled import is_settled
from weirkeepers.walk import Walk

END = (call("b"), right("a"), right("b"))


def straight(weirs, rights):
    """A book and a day of so many weirs and rights, all of which pass all weirs."""
    rows = [(name, low) for name, low in zip("abcdefghij"[:weirs], list("abcdefghij"[1:weirs]) + ["sea"])]
    whole = Rights(River(rows), [(name, "a", "sea") for name in "klmnopqrst"[:rights]])
    return Book.alike(whole, whole.names), Day(whole, {}, {}, call=2, water=3)


def plain_ends(walk):
    """All ends, by trying all sets of columns."""
    return [columns for columns in itertools.combinations(walk.table.columns, len(walk.table.gates))
            if walk.is_end(columns)]


class EndsTest(Case):

    def test_the_example(self):
        book = Book.alike(one_weir("a", "b"), "ab")
        self.assertEqual(ends(book, two_day()), [END])
        self.assertEqual(reached(book, two_day()), [END])
        for door in [W, call("a"), call("b")]:
            self.assertEqual(paired(book, two_day(), door), [(None, END)])

    def test_three_ends(self):
        book, day = three_ends()
        walk = Walk(book, day)
        found = ends(day=day, book=book)
        self.assertEqual((len(found), found), (3, plain_ends(walk)))
        self.assertEqual(len({tuple(walk.sharing(end).cubes().values()) for end in found}), 3)
        self.assertEqual(reached(day=day, book=book), found)
        whole = set()
        for door in walk.table.gates:
            pairs = paired(book, day, door=door)
            self.assertEqual((len(pairs), pairs[0]), (2, (None, walk.road(door).end)))
            one, other = pairs[1]
            self.assertEqual(sorted([pairs[0][1], one, other], key=found.index), found)
            self.assertLess(found.index(one), found.index(other))
            self.assertEqual((walk.road(door, one).end, walk.road(door, other).end), (other, one))
            whole.add(pairs[0][1])
        self.assertGreater(len(whole), 1)

    def test_by_the_words(self):
        for _, book, day in many_books(120, 3, 3):
            if rings(book):
                continue
            walk = Walk(book, day)
            found = ends(book, day)
            self.assertEqual(found, plain_ends(walk))
            self.assertEqual(len(found) % 2, 1)
            places = {end: place for place, end in enumerate(found)}
            news = {None}
            known = set()
            while news:
                news = {walk.road(door, end).end for end in news for door in walk.table.gates} - known - {None}
                known |= news
            self.assertEqual(reached(book, day), sorted(known, key=places.get))
            for door in walk.table.gates:
                pairs = paired(book, day, door)
                self.assertEqual(pairs[0], (None, walk.road(door).end))
                self.assertEqual(sorted([end for pair in pairs for end in pair if end], key=places.get), found)
                self.assertEqual(pairs[1:], sorted(pairs[1:], key=lambda pair: [places[end] for end in pair]))

    def test_without_rights(self):
        for weirs in (1, 3):
            book, day = straight(weirs, 0)
            spares = tuple(("weir", weir) for weir in book.river)
            self.assertEqual((ends(book, day), reached(book, day)), ([spares], [spares]))
            self.assertEqual(paired(book, day, spares[-1]), [(None, spares)])

    def test_too_many(self):
        for weirs, rights in [(10, 3), (8, 4), (10, 4), (4, 5), (5, 5), (2, 6)]:
            book, day = straight(weirs, rights)
            self.assertLessEqual(math.comb(weirs + 2 * rights, rights), 4096)
            found = ends(book, day)
            self.assertTrue(all(is_settled(book, day, Walk(book, day).sharing(end)) for end in found))
            self.assertEqual(reached(book, day), found)
        for weirs, rights in [(6, 5), (3, 6), (1, 7), (10, 10)]:
            book, day = straight(weirs, rights)
            number = math.comb(weirs + 2 * rights, rights)
            self.assertGreater(number, 4096)
            self.fails(TooMany(number), ends, book, day)
            for door in [("weir", "a"), "zz", None]:
                self.fails(TooMany(number), paired, book, day, door)
            self.assertEqual(len(reached(book, day)) % 2, 1)

    def test_rings_come_first(self):
        book = around()
        day = Day(book.rights, {}, {})
        error = RingError("w", ("a", "b", "c"))
        self.fails(error, ends, book, day)
        self.fails(error, reached, book, day)
        self.fails(error, paired, book, day, "zz")
        rights = Rights(River([("w", "sea")]), [(name, "w", "w") for name in "abcdefgh"])
        wide = Book.alike(rights, "abcdefgh").bent(Promise("a", "c"))
        self.fails(error, ends, wide, Day(rights, {}, {}))
        self.fails(error, paired, wide, Day(rights, {}, {}), None)

    def test_wrong_doors(self):
        for value in ODD_COLUMNS + [right("a"), W]:
            if value != ("weir", "up"):
                self.fails(NotColumn(value), paired, unlike(), Day(unlike().rights, {}, {}), value)

    def test_results_are_new(self):
        book, day = three_ends()
        told = (ends(book, day), reached(book, day), paired(book, day, call("a")))
        ends(book, day).clear()
        reached(book, day).clear()
        paired(book, day, call("a")).clear()
        self.assertEqual((ends(book, day), reached(book, day), paired(book, day, call("a"))), told)
        self.assertIsInstance(told[2][0], tuple)


if __name__ == "__main__":
    unittest.main()
