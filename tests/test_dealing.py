"""dealing.py: point 4.7."""

import itertools
import unittest

from tests.samples import Case, ODD_VALUES, around, fork_rights, many_books, one_weir, unlike
from weirkeepers.books import Book
from weirkeepers.days import Day
from weirkeepers.dealing import deal, first_sharing
from weirkeepers.errors import NoRight, NotFirstKind
from weirkeepers.rights import Rights
from weirkeepers.settled import is_settled
from weirkeepers.sharings import Sharing, fits
from weirkeepers.verdict import is_line

MUCH = 10 ** 30


def fork_day():
    """A day of the rights of the fork."""
    return Day(fork_rights(), {"p": 3, "q": 2, "r": 4, "s": 2, "sea": 9}, {"a": 3, "b": 4, "c": 4, "d": 5})


class DealTest(Case):

    def check(self, line, wanted):
        """What p, q, r, s and sea get along the line."""
        sharing = deal(fork_day(), line)
        self.assertIsInstance(sharing, Sharing)
        self.assertEqual(sharing.cubes(), dict(zip(("p", "q", "r", "s", "sea"), wanted)))

    def test_along_some_lines(self):
        self.check(["p", "q", "r", "s", "sea"], (3, 1, 4, 0, 2))
        self.check(("sea", "s", "r", "q", "p"), (0, 1, 2, 2, 5))
        self.check(["q", "p", "s", "r", "sea"], (2, 2, 3, 1, 3))
        self.assertEqual(deal(line=("r",), day=fork_day()).cubes()["r"], 4)

    def test_rights_that_are_left_out(self):
        self.check([], (0, 0, 0, 0, 0))
        self.check(("s",), (0, 0, 0, 2, 0))
        self.check(["sea", "p"], (0, 0, 0, 0, 5))
        self.check(["p", "sea"], (3, 0, 0, 0, 2))

    def test_wrong_names(self):
        for value in ODD_VALUES + ["a", "c", "P"]:
            self.fails(NoRight(value), deal, fork_day(), ["p", value, "zz", "p"])
            self.fails(NoRight(value), deal, fork_day(), (value,))
        self.fails(NoRight("p"), deal, fork_day(), ["p", "q", "p", "zz"])
        self.fails(NoRight("sea"), deal, fork_day(), ("sea", "sea", "q", "q"))

    def test_large_numbers(self):
        day = Day(fork_rights(), {}, {}, call=MUCH, water=MUCH)
        self.assertEqual(deal(day, ["q", "p", "r", "s", "sea"]).cubes(),
                         {"p": 0, "q": MUCH, "r": MUCH, "s": 0, "sea": MUCH})
        day = Day(fork_rights(), {"q": 1}, {}, call=MUCH, water=MUCH)
        self.assertEqual(deal(day, ("q", "p"))["p"], MUCH - 1)

    def test_arguments_stay(self):
        line = ["p", "q", "r", "s", "sea"]
        day = fork_day()
        deal(day, line)
        self.assertEqual((line, day), (["p", "q", "r", "s", "sea"], fork_day()))

    def test_without_rights(self):
        day = Day(one_weir(), {}, {"w": 1})
        self.assertEqual(deal(day, []), Sharing(one_weir(), {}))
        self.fails(NoRight("w"), deal, day, ["w"])

    def test_each_one_gets_the_most_that_is_left(self):
        for dice, book, day in many_books(150):
            line = dice.sample(book.rights.names, dice.randint(0, len(book.rights)))
            given = {}
            for name in line:
                tries = [Sharing(book.rights, given | {name: more}) for more in range(day.call(name) + 1)]
                given[name] = max(more for more, sharing in enumerate(tries) if fits(day, sharing))
            self.assertEqual(deal(day, line), Sharing(book.rights, given))


class FirstSharingTest(Case):

    def test_of_each_kind(self):
        book = Book.alike(unlike().rights, "ba")
        day = Day(book.rights, {"a": 2, "b": 2}, {"up": 3, "low": 4})
        self.assertEqual(first_sharing(book, day).cubes(), {"a": 1, "b": 2})
        self.assertEqual(first_sharing(day=day, book=Book.alike(book.rights, "ab")).cubes(), {"a": 2, "b": 1})
        self.fails(NotFirstKind("some"), first_sharing, unlike(), day)
        self.fails(NotFirstKind("none"), first_sharing, around(), Day(around().rights, {}, {}))
        self.assertEqual(len(first_sharing(Book(one_weir(), {}), Day(one_weir(), {}, {}))), 0)

    def test_any_line_gives_the_settled_sharing(self):
        for _, book, day in many_books(120, 5, 4):
            lines = [line for line in itertools.permutations(book.rights.names) if is_line(book, line)]
            for line in lines:
                self.assertTrue(is_settled(book, day, deal(day, line)))
                self.assertEqual(deal(day, line), first_sharing(book, day))

    def test_rights_with_one_name_each(self):
        rights = Rights(fork_rights().river, [("a", "d", "sea")])
        day = Day(rights, {"a": 7}, {"d": 5, "c": 6, "a": 7, "b": 0})
        self.assertEqual(first_sharing(Book.alike(rights, ["a"]), day).cubes(), {"a": 5})


if __name__ == "__main__":
    unittest.main()
