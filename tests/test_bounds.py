"""bounds.py: point 5.6."""

import itertools
import unittest

from tests.samples import Case, ODD_VALUES, around, many_books, one_weir, unlike
from weirkeepers.acts import Rounds
from weirkeepers.books import Book
from weirkeepers.bounds import Bounds, bounds
from weirkeepers.days import Day
from weirkeepers.errors import NoRight, NotSharing
from weirkeepers.keepers import is_rest, step
from weirkeepers.promises import Promise
from weirkeepers.rights import Rights
from weirkeepers.rivers import River
from weirkeepers.verdict import Kind, judge

MUCH = 10 ** 30


def row_book():
    """A book of one weir at which a goes ahead of b, b of c, and a of c."""
    return Book.alike(one_weir("c", "b", "a"), "abc")


def row_day():
    """A day on which a calls for 2, b for 2 and c for 9, and the weir has 5."""
    return Day(row_book().rights, {"a": 2, "b": 2, "c": 9}, {"w": 5})


def slow():
    """A book and a day whose bounds close by one cube with each round."""
    book = unlike()
    return book, Day(book.rights, {}, {"up": 100, "low": 101}, call=1000)


def late():
    """A book and a day whose bounds meet after two rounds."""
    rights = Rights(River([("w", "sea"), ("u", "w")]),
                    [("a", "w", "sea"), ("b", "w", "w"), ("c", "u", "sea"), ("d", "u", "u")])
    return Book.alike(rights, "abcd"), Day(rights, {}, {"w": 2, "u": 1}, call=1)


def plain_bounds(book, day, rounds):
    """The lows, the highs and the number of rounds by the words of the point."""
    low = {name: 0 for name in book.rights.names}
    high = step(book, day, low)
    made = 0
    for _ in range(rounds):
        new_low = step(book, day, high)
        new_high = step(book, day, new_low)
        if (new_low, new_high) == (low, high):
            break
        low, high = new_low, new_high
        made += 1
    return low, high, made


class BoundsTest(Case):

    def check(self, found, lows, highs, rounds):
        """The bounds are as wanted."""
        self.assertIsInstance(found, Bounds)
        self.assertEqual((found.lows(), found.highs(), found.rounds), (lows, highs, rounds))
        for name in lows:
            self.assertEqual((found.low(name), found.high(name)), (lows[name], highs[name]))
        self.assertIs(found.is_met, lows == highs)

    def test_round_by_round(self):
        book = row_book()
        day = row_day()
        self.check(bounds(book, day, rounds=0), {"c": 0, "b": 0, "a": 0}, {"c": 5, "b": 2, "a": 2}, 0)
        settled = {"c": 1, "b": 2, "a": 2}
        self.check(bounds(book, day, rounds=1), settled, settled, 1)
        self.check(bounds(book, day, rounds=2), settled, settled, 1)
        self.check(bounds(day=day, book=book), settled, settled, 1)
        self.assertEqual(list(bounds(book, day).lows()), ["c", "b", "a"])
        self.assertEqual(list(bounds(book, day).highs()), ["c", "b", "a"])

    def test_bounds_that_meet_late(self):
        book, day = late()
        self.check(bounds(book, day, rounds=0), dict(a=0, b=0, c=0, d=0), dict(a=1, b=1, c=1, d=1), 0)
        self.check(bounds(book, day, rounds=1), dict(a=1, b=1, c=0, d=0), dict(a=1, b=1, c=0, d=1), 1)
        self.check(bounds(book, day, rounds=2), dict(a=1, b=1, c=0, d=1), dict(a=1, b=1, c=0, d=1), 2)
        self.check(bounds(book, day, rounds=3), dict(a=1, b=1, c=0, d=1), dict(a=1, b=1, c=0, d=1), 2)

    def test_bounds_that_do_not_meet(self):
        book = unlike()
        day = Day(book.rights, {}, {}, call=2, water=2)
        for rounds in (0, 1, 60):
            self.check(bounds(book, day, rounds=rounds), {"a": 0, "b": 0}, {"a": 2, "b": 2}, 0)
        day = Day(around().rights, {}, {}, call=2, water=2)
        self.check(bounds(around(), day), dict(a=0, b=0, c=0), dict(a=2, b=2, c=2), 0)

    def test_60_rounds(self):
        book, day = slow()
        self.check(bounds(book, day, rounds=1), {"a": 1, "b": 0}, {"a": 100, "b": 99}, 1)
        self.check(bounds(book, day), {"a": 60, "b": 0}, {"a": 100, "b": 40}, 60)
        self.check(bounds(book, day, rounds=60), {"a": 60, "b": 0}, {"a": 100, "b": 40}, 60)
        self.check(bounds(book, day, rounds=59), {"a": 59, "b": 0}, {"a": 100, "b": 41}, 59)
        self.check(bounds(book, day, rounds=99), {"a": 99, "b": 0}, {"a": 100, "b": 1}, 99)
        self.check(bounds(book, day, rounds=100), {"a": 100, "b": 0}, {"a": 100, "b": 0}, 100)
        self.check(bounds(book, day, rounds=1000), {"a": 100, "b": 0}, {"a": 100, "b": 0}, 100)

    def test_large_numbers(self):
        book = row_book()
        day = Day(book.rights, {"a": 1}, {}, call=MUCH, water=MUCH)
        self.check(bounds(book, day), {"c": 0, "b": MUCH - 1, "a": 1}, {"c": 0, "b": MUCH - 1, "a": 1}, 1)

    def test_without_rights(self):
        book = Book(one_weir(), {})
        self.check(bounds(book, Day(book.rights, {}, {})), {}, {}, 0)
        self.assertIn({}, bounds(book, Day(book.rights, {}, {})))

    def test_unknown_rights(self):
        found = bounds(unlike(), Day(unlike().rights, {}, {}))
        for value in ODD_VALUES + ["up"]:
            if value != "a":
                self.fails(NoRight(value), found.low, value)
                self.fails(NoRight(value), found.high, name=value)

    def test_amounts_in_bounds(self):
        book, day = slow()
        found = bounds(book, day)
        for a, b in itertools.product((0, 59, 60, 61, 100, 101, 10 ** 31), (0, 1, 40, 41)):
            self.assertIs({"b": b, "a": a} in found, 60 <= a <= 100 and b <= 40)
        for value in [None, True, False, -1, 10 ** 31 + 1, "60", [60], (), (60,)]:
            self.fails(NotSharing("b"), found.__contains__, {"a": 0, "b": value})
            self.fails(NotSharing("a"), found.__contains__, {"a": value, "b": value})
            with self.assertRaises(NotSharing):
                found_in = {"a": 60, "b": value} in found
                self.assertIsNone(found_in)
        self.fails(NotSharing("b"), found.__contains__, {"a": 0})
        self.fails(NotSharing("a"), found.__contains__, {})

    def test_equality(self):
        book, day = slow()
        ones = [bounds(book, day, rounds=rounds) for rounds in range(3)]
        for place, found in enumerate(ones):
            self.equals_nothing_else(found, *(ones[:place] + ones[place + 1:]))
        self.assertTrue(bounds(book, day) == bounds(book, day, rounds=60))
        self.assertFalse(bounds(book, day) == bounds(book, day, rounds=61))
        zero = Day(row_book().rights, {}, {})
        self.assertTrue(bounds(row_book(), zero) == bounds(around(), Day(around().rights, {}, {}, water=3)))
        met = Book.alike(one_weir("b", "a"), "ab")
        self.assertFalse(bounds(met, Day(met.rights, {}, {}, call=1, water=2))
                         == bounds(met, Day(met.rights, {}, {}, call=1)))
        one = Day(met.rights, {"a": 1}, {"w": 9})
        self.assertFalse(bounds(met, one, rounds=0) == bounds(met, one.with_call("a", 2), rounds=0))
        bent = met.bent(Promise("a", "b"))
        self.assertTrue(bounds(met, one, rounds=0) == bounds(bent, one, rounds=0))
        self.assertFalse(bounds(met, one) == bounds(bent, one, rounds=0))

    def test_lows_highs_and_rounds_each_count(self):
        book = unlike()
        calls = {"a": 1, "b": 3}
        wide = bounds(book, Day(book.rights, calls, {}, water=2), rounds=1)
        met = bounds(Book.alike(book.rights, "ab"), Day(book.rights, calls, {}, water=3), rounds=1)
        self.assertEqual((wide.highs(), wide.rounds), (met.highs(), met.rounds))
        self.assertFalse(wide == met)
        book, day = late()
        quick = bounds(book, Day(book.rights, {"c": 0}, {}, call=1, water=9))
        self.assertEqual((quick.lows(), quick.highs()), (bounds(book, day).lows(), bounds(book, day).highs()))
        self.assertEqual((quick.rounds, bounds(book, day).rounds), (1, 2))
        self.assertFalse(quick == bounds(book, day))

    def test_results_are_new(self):
        book, day = slow()
        found = bounds(book, day)
        found.lows()["a"] = 7
        found.highs()["a"] = 7
        self.assertEqual((found.lows(), found.highs()), ({"a": 60, "b": 0}, {"a": 100, "b": 40}))
        self.assertEqual((found.low("a"), found.high("a")), (60, 100))

    def test_by_the_words(self):
        met = {Kind.ONE: 0, Kind.SOME: 0, Kind.NONE: 0}
        for dice, book, day in many_books(250, 5, 6, 3):
            for rounds in (0, 1, dice.randint(0, 5), 60):
                found = bounds(book, day, rounds=rounds)
                self.check(found, *plain_bounds(book, day, rounds))
            names = book.rights.names
            for cubes in itertools.islice(itertools.product(range(4), repeat=len(names)), 80):
                amounts = dict(zip(names, cubes))
                wanted = all(found.low(name) <= amounts[name] <= found.high(name) for name in names)
                self.assertIs(amounts in found, wanted)
                if is_rest(book, day, amounts):
                    self.assertIn(amounts, found)
            kind = judge(book).kind
            met[kind] += found.is_met
            self.assertTrue(found.is_met or kind != Kind.ONE)
        self.assertGreater(min(met.values()), 3)

    def test_grades_keep_to_the_bounds(self):
        for dice, book, day in many_books(60, 4, 6):
            names = book.rights.names
            rounds = Rounds(book, day, {name: dice.randint(0, 5) for name in names})
            found = [bounds(book, day, rounds=count) for count in range(61)]
            for _ in range(15):
                rounds.act(ages={name: dice.randint(0, 2) for name in names})
                for name in names:
                    grade = rounds.grade(name)
                    self.assertGreaterEqual(rounds.amount(name), found[grade // 2].low(name))
                    if grade > 0:
                        self.assertLessEqual(rounds.amount(name), found[(grade - 1) // 2].high(name))


if __name__ == "__main__":
    unittest.main()
