"""settled.py: point 4.5."""

import itertools
import unittest

from tests.samples import Case, ODD_VALUES, many_books, one_weir, unlike
from weirkeepers.books import Book
from weirkeepers.days import Day
from weirkeepers.errors import NoRight
from weirkeepers.rights import Rights
from weirkeepers.rivers import River
from weirkeepers.settled import bar, bars, is_settled, open_rights
from weirkeepers.sharings import Sharing, fits

MUCH = 10 ** 30


def long_way():
    """A book of three weirs in a row; p passes all, q the upper two, r the lower two; the orders differ."""
    rights = Rights(River([("low", "sea"), ("mid", "low"), ("top", "mid")]),
                    [("p", "top", "sea"), ("q", "top", "mid"), ("r", "mid", "low")])
    return Book(rights, {"top": "qp", "mid": "prq", "low": "rp"})


def plain_bar(book, day, sharing, name):
    """The bar by the words of the point."""
    if sharing[name] == day.call(name):
        return ("call", name)
    for weir in book.rights.way(name):
        if sum(sharing[other] for other in book.rights.passing(weir)) != day.water(weir):
            continue
        if all(book.goes_ahead(weir, other, name) for other in book.rights.passing(weir)
               if other != name and sharing[other] >= 1):
            return ("weir", weir)
    return None


class BarTest(Case):

    def check(self, calls, waters, cubes, wanted):
        """The bars of the long way; the sharing is settled if it fits and none is None."""
        book = long_way()
        day = Day(book.rights, dict(zip("pqr", calls)), dict(zip(("top", "mid", "low"), waters)))
        sharing = Sharing(book.rights, dict(zip("pqr", cubes)))
        told = [None if row is None else ("call" if row in "pqr" else "weir", row) for row in wanted]
        self.assertEqual([bar(book, day, sharing, name) for name in "pqr"], told)
        self.assertEqual(bars(book, day, sharing), dict(zip("pqr", told)))
        self.assertEqual(list(bars(book, day, sharing)), ["p", "q", "r"])
        openly = tuple(name for name, row in zip("pqr", wanted) if row is None)
        self.assertEqual(open_rights(book, day, sharing), openly)
        self.assertIs(is_settled(book, day, sharing), fits(day, sharing) and not openly)

    def test_a_call_comes_first(self):
        self.check((2, 3, 1), (5, 6, 3), (2, 3, 1), ["p", "q", "r"])
        self.check((0, 0, 0), (0, 0, 0), (0, 0, 0), ["p", "q", "r"])
        self.check((MUCH, 0, 0), (MUCH, MUCH, MUCH), (MUCH, 0, 0), ["p", "q", "r"])

    def test_the_first_full_weir_upstream_first(self):
        self.check((9, 9, 9), (4, 4, 4), (0, 4, 0), ["top", "top", None])
        self.check((9, 9, 9), (4, 4, 0), (0, 4, 0), ["top", "top", "low"])
        self.check((9, 9, 9), (4, 4, 1), (1, 3, 0), ["top", "mid", None])
        self.check((9, 9, 9), (5, 4, 1), (1, 3, 0), ["low", "mid", None])
        self.check((9, 9, 9), (5, 5, 3), (0, 2, 3), ["low", "mid", "low"])
        self.check((9, 0, 9), (5, 5, 0), (0, 0, 0), ["low", "q", "low"])

    def test_without_any_water(self):
        self.check((1, 1, 1), (0, 0, 0), (0, 0, 0), ["top", "top", "mid"])
        self.check((1, 1, 1), (0, 1, 1), (0, 0, 1), ["top", "top", "r"])
        self.check((MUCH, MUCH, MUCH), (0, MUCH, MUCH), (0, 0, MUCH), ["top", "top", "r"])

    def test_rights_behind_do_not_bar(self):
        self.check((9, 9, 9), (3, 9, 9), (2, 1, 0), ["top", None, None])
        self.check((9, 9, 9), (9, 3, 9), (1, 1, 1), [None, "mid", None])
        self.check((9, 9, 9), (9, 2, 9), (1, 0, 1), [None, "mid", "mid"])
        self.check((9, 9, 9), (9, 2, 9), (2, 0, 0), ["mid", "mid", "mid"])

    def test_more_than_the_call(self):
        self.check((1, 9, 9), (2, 2, 2), (2, 0, 0), ["top", "mid", "mid"])
        self.check((1, 9, 9), (9, 9, 2), (2, 0, 0), ["low", None, None])
        self.check((1, 0, 0), (9, 9, 9), (2, 0, 0), [None, "q", "r"])

    def test_sharings_that_do_not_fit(self):
        self.check((1, 1, 1), (1, 9, 9), (1, 1, 1), ["p", "q", "r"])
        self.check((5, 5, 0), (3, 9, 9), (0, 4, 0), [None, None, "r"])

    def test_unknown_rights(self):
        book = unlike()
        day = Day(book.rights, {}, {})
        sharing = Sharing(book.rights, {})
        for name in ODD_VALUES + ["up", "low", "b "]:
            if name != "a":
                self.fails(NoRight(name), bar, book, day, sharing, name)
        self.assertEqual(bar(name="b", sharing=sharing, day=day, book=book), ("call", "b"))

    def test_without_rights(self):
        book = Book(one_weir(), {})
        day = Day(book.rights, {}, {"w": 3})
        sharing = Sharing(book.rights, {})
        self.assertEqual((bars(book, day, sharing), open_rights(book, day, sharing)), ({}, ()))
        self.assertIs(is_settled(book, day, sharing), True)

    def test_two_settled_sharings(self):
        book = unlike()
        day = Day(book.rights, {"a": 2, "b": 2}, {"up": 2, "low": 2})
        found = [cubes for cubes in itertools.product(range(4), repeat=2)
                 if is_settled(book, day, Sharing(book.rights, dict(zip("ab", cubes))))]
        self.assertEqual(found, [(0, 2), (1, 1), (2, 0)])

    def test_by_the_words(self):
        for dice, book, day in many_books(250):
            names = book.rights.names
            for _ in range(6):
                sharing = Sharing(book.rights, {name: dice.choice([0, 0, 1, 2, day.call(name)]) for name in names})
                wanted = {name: plain_bar(book, day, sharing, name) for name in names}
                self.assertEqual(bars(book, day, sharing), wanted)
                openly = tuple(name for name in names if wanted[name] is None)
                self.assertEqual(open_rights(book, day, sharing), openly)
                self.assertIs(is_settled(book, day, sharing), not openly and fits(day, sharing))


if __name__ == "__main__":
    unittest.main()
