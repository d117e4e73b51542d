"""wheels.py: point 7.8."""

import itertools
import random
import unittest

from tests.samples import (Case, ODD_VALUES, around, crowded_rights, example, far, long_wheel, many_books, one_weir,
                           some_orders, three_ends, two_knots)
from weirkeepers.books import Book
from weirkeepers.days import Day
from weirkeepers.errors import NotSettled, TooMany
from weirkeepers.knots import knots
from weirkeepers.listing import settled_sharings
from weirkeepers.rights import Rights
from weirkeepers.rivers import River
from weirkeepers.settled import bar, is_settled, open_rights
from weirkeepers.sharings import Sharing
from weirkeepers.wheels import is_wheel, need_settled, wheel

MUCH = 10 ** 30


def shared(book, *cubes):
    """The sharing with these cubes, in the order of rights."""
    return Sharing(book.rights, dict(zip(book.rights.names, cubes)))


def plain_wheel(book, day, one, other):
    """The wheel by the words of the point."""
    gain = {name: other[name] - one[name] for name in book.rights.names}
    names = [next(name for name in gain if gain[name] > 0)]
    rows = {}
    while names[-1] not in names[:-1]:
        name = names[-1]
        weir = bar(book, day, one if gain[name] > 0 else other, name)[1]
        rows[name] = (name, weir, next(rival for rival in book.rights.passing(weir) if gain[rival] * gain[name] < 0))
        names.append(rows[name][2])
    around_it = names[names.index(names[-1]):-1]
    first = next(name for name in book.rights.names if name in around_it and gain[name] > 0)
    at = around_it.index(first)
    return tuple(rows[name] for name in around_it[at:] + around_it[:at])


def plain_is_wheel(book, day, one, other, rows):
    """True if rows of the right form are a wheel, by the words of the point."""
    gain = {name: other[name] - one[name] for name in book.rights.names}
    names = [row[0] for row in rows]
    if len(rows) % 2 == 1 or len(rows) < 2 or len(set(names)) < len(names):
        return False
    for place, (name, weir, ahead) in enumerate(rows):
        behind = rows[(place + 1) % len(rows)][0]
        if ahead != behind or gain[name] == 0 or gain[name] * gain[behind] >= 0:
            return False
        if not (book.rights.passes(name, weir) and book.rights.passes(ahead, weir)):
            return False
        if not book.goes_ahead(weir, ahead, name):
            return False
        if (one if gain[name] > 0 else other).use(weir) != day.water(weir):
            return False
    return True


class NeedSettledTest(Case):

    def test_errors(self):
        book, day = example()
        for a, b in itertools.product(range(4), repeat=2):
            if a + b > 2:
                self.fails(NotSettled(None), need_settled, book, day, shared(book, a, b))
            elif a + b < 2:
                self.fails(NotSettled("a"), need_settled, book, day, shared(book, a, b))
            else:
                self.assertIsNone(need_settled(sharing=shared(book, a, b), day=day, book=book))

    def test_the_first_open_right(self):
        book, day = two_knots()
        self.fails(NotSettled("d"), need_settled, book, day, shared(book, 1, 0, 0, 3, 0))
        self.fails(NotSettled("a"), need_settled, book, day, shared(book, 0, 0, 0, 3, 0))
        self.fails(NotSettled("e"), need_settled, book, day, shared(book, 1, 1, 0, 2, 0))
        self.fails(NotSettled(None), need_settled, book, day, shared(book, 1, 1, 1, 0, 0))

    def test_days_of_any_room(self):
        book, day = far()
        self.assertIsNone(need_settled(book, day, shared(book, MUCH - 7, 7)))
        self.fails(NotSettled("a"), need_settled, book, day, shared(book, 1, 1))
        self.fails(NotSettled(None), need_settled, book, day, shared(book, MUCH, 1))

    def test_by_the_words(self):
        for dice, book, day in many_books(100):
            sharing = Sharing(book.rights, {name: dice.choice([0, day.call(name)]) for name in book.rights})
            if is_settled(book, day, sharing):
                self.assertIsNone(need_settled(book, day, sharing))
            else:
                with self.assertRaises(NotSettled) as caught:
                    need_settled(book, day, sharing)
                self.assertIn(caught.exception.name, (None,) + open_rights(book, day, sharing)[:1])


class WheelTest(Case):

    def test_two_rows(self):
        book, day = example()
        one, mid, other = shared(book, 0, 2), shared(book, 1, 1), shared(book, 2, 0)
        for low, high in [(one, mid), (one, other), (mid, other)]:
            self.assertEqual(wheel(book, day, low, high), (("a", "low", "b"), ("b", "up", "a")))
            self.assertEqual(wheel(other=low, one=high, day=day, book=book), (("b", "up", "a"), ("a", "low", "b")))
        for sharing in (one, mid, other):
            self.assertEqual(wheel(book, day, sharing, sharing), ())

    def test_the_first_right_that_gains_may_stay_outside(self):
        book, day = three_ends()
        one, other = shared(book, 0, 2, 4, 12), shared(book, 2, 0, 9, 7)
        self.assertEqual(wheel(book, day, one, other), (("c", "b", "b"), ("b", "c", "c")))
        self.assertEqual(wheel(book, day, other, one), (("b", "c", "c"), ("c", "b", "b")))

    def test_four_rows(self):
        book, day, one, other = long_wheel()
        rows = (("d", "x", "a"), ("a", "t", "c"), ("c", "u", "b"), ("b", "v", "d"))
        self.assertEqual(wheel(book, day, one, other), rows)
        self.assertEqual(wheel(book, day, other, one), rows[3:] + rows[:3])
        self.assertIs(is_wheel(book, day, one, other, rows), True)
        self.assertEqual(plain_wheel(book, day, one, other), rows)

    def test_begin_with_the_first_right_that_gains(self):
        book, day = two_knots()
        one, other = shared(book, 0, 0, 1, 3, 1), shared(book, 1, 1, 0, 3, 0)
        self.assertEqual(wheel(book, day, one, other), (("a", "low", "c"), ("c", "up", "a")))
        self.assertIs(is_wheel(book, day, one, other, (("d", "mid", "b"), ("b", "hi", "d"))), True)

    def test_errors_the_first_sharing_first(self):
        book, day = example()
        good, low, high = shared(book, 1, 1), shared(book, 0, 0), shared(book, 2, 2)
        self.fails(NotSettled("a"), wheel, book, day, low, high)
        self.fails(NotSettled(None), wheel, book, day, high, low)
        self.fails(NotSettled("a"), wheel, book, day, good, low)
        self.fails(NotSettled(None), wheel, book, day, good, high)
        self.fails(NotSettled("a"), wheel, book, day, low, low)

    def test_days_of_any_room(self):
        book, day = far()
        one, other = shared(book, MUCH, 0), shared(book, 1, MUCH - 1)
        self.fails(TooMany((MUCH + 1) ** 2), next, settled_sharings(book, day))
        rows = (("b", "up", "a"), ("a", "low", "b"))
        self.assertEqual(wheel(book, day, one, other), rows)
        self.assertIs(is_wheel(book, day, one, other, rows), True)

    def test_without_rights(self):
        book = Book(one_weir(), {})
        day = Day(book.rights, {}, {})
        self.assertEqual(wheel(book, day, Sharing(book.rights, {}), Sharing(book.rights, {})), ())
        self.assertIs(is_wheel(book, day, Sharing(book.rights, {}), Sharing(book.rights, {}), ()), False)

    def test_by_the_words(self):
        count = 0
        for _, book, day in many_books(700, 4, 7, 3):
            sharings = list(settled_sharings(book, day))
            for one, other in itertools.islice(itertools.permutations(sharings, 2), 12):
                rows = wheel(book, day, one, other)
                self.assertEqual(rows, plain_wheel(book, day, one, other))
                self.assertIs(is_wheel(book, day, one, other, rows), True)
                self.assertTrue(any({row[0] for row in rows} <= set(knot.names) for knot in knots(book, day)))
                count += 1
        self.assertGreater(count, 20)


class IsWheelTest(Case):

    def test_wheels_begun_elsewhere(self):
        book, day = example()
        one, other = shared(book, 0, 2), shared(book, 1, 1)
        rows = (("a", "low", "b"), ("b", "up", "a"))
        self.assertIs(is_wheel(book, day, one, other, rows), True)
        self.assertIs(is_wheel(thing=rows[::-1], other=other, one=one, day=day, book=book), True)
        # A right has less in the same one of the two sharings, whichever comes first.
        self.assertIs(is_wheel(book, day, other, one, rows), True)
        self.assertIs(is_wheel(book, day, one, other, (("a", "up", "b"), ("b", "low", "a"))), False)
        self.assertIs(is_wheel(book, day, one, one, rows), False)

    def test_spoilt_rows(self):
        book, day = example()
        one, other = shared(book, 0, 2), shared(book, 1, 1)
        rows = (("a", "low", "b"), ("b", "up", "a"))
        spoilt = [(), rows[:1], rows[1:], rows + rows, rows + rows[:1], list(rows), (list(rows[0]), rows[1]), rows[0],
                  (rows[0] + ("a",), rows[1]), (rows[0][:2], rows[1]), (rows[0], rows[0]), (rows[1], rows[1]), (rows,)]
        for thing in spoilt + ODD_VALUES:
            self.assertIs(is_wheel(book, day, one, other, thing), False, thing)
        for place, at in itertools.product(range(2), range(3)):
            for value in ODD_VALUES + ["b", "up", "low", "sea", "c", ("a", "low", "b")]:
                row = list(rows[place])
                row[at] = value
                thing = (tuple(row), rows[1]) if place == 0 else (rows[0], tuple(row))
                self.assertIs(is_wheel(book, day, one, other, thing), thing == rows, thing)

    def test_sharings_that_are_not_settled(self):
        book, day = example()
        rows = (("a", "low", "b"), ("b", "up", "a"))
        self.assertIs(is_wheel(book, day, shared(book, 0, 2), shared(book, 2, 0), rows), True)
        self.assertIs(is_wheel(book, day.with_water("up", 9), shared(book, 0, 2), shared(book, 9, 0), rows), True)
        self.assertIs(is_wheel(book, day.with_water("up", 9), shared(book, 0, 2), shared(book, 8, 0), rows), False)
        self.assertIs(is_wheel(book, day.with_water("low", 3), shared(book, 0, 2), shared(book, 2, 0), rows), False)
        self.assertIs(is_wheel(book, day.with_water("low", 3), shared(book, 0, 3), shared(book, 2, 0), rows), True)

    def test_four_rows(self):
        river = River([("d", "sea"), ("c", "d"), ("b", "c"), ("a", "b")])
        rights = Rights(river, [(name, "a", "sea") for name in "pqrs"])
        book = Book(rights, {"a": "qprs", "b": "rpqs", "c": "spqr", "d": "pqrs"})
        day = Day(rights, {}, {}, call=2, water=2)
        one, other = shared(book, 0, 1, 0, 1), shared(book, 1, 0, 1, 0)
        rows = (("p", "a", "q"), ("q", "b", "r"), ("r", "c", "s"), ("s", "d", "p"))
        for turned in [rows, rows[1:] + rows[:1], rows[2:] + rows[:2], rows[3:] + rows[:3]]:
            self.assertIs(is_wheel(book, day, one, other, turned), True)
            self.assertIs(is_wheel(book, day, other, one, turned), True)
            self.assertIs(is_wheel(book, day, one, other, turned[:3]), False)
            self.assertIs(is_wheel(book, day.with_water("c", 3), one, other, turned), False)
        self.assertIs(is_wheel(book, day, one, other, rows[:2] + rows[3:] + rows[2:3]), False)
        self.assertIs(is_wheel(book, day, one, shared(book, 1, 0, 0, 2), rows), False)
        three = (("p", "a", "q"), ("q", "b", "r"), ("r", "d", "p"))
        self.assertIs(is_wheel(book, day, one, other, three), False)
        ring = (("a", "w", "c"), ("b", "w", "a"), ("c", "w", "b"))
        wide = around()
        dry = Day(wide.rights, {}, {})
        self.assertIs(is_wheel(wide, dry, shared(wide, 1, 0, 0), shared(wide, 0, 1, 0), ring), False)

    def test_by_the_words(self):
        right_ones = 0
        dice = random.Random(12)
        for _ in range(200):
            rights = crowded_rights(dice, 3, 4)
            book = Book(rights, some_orders(dice, rights))
            names = rights.names
            one, other = [shared(book, *[dice.randint(0, 2) for _ in names]) for _ in range(2)]
            day = Day(book.rights, {}, {weir: dice.choice([one, other]).use(weir) for weir in book.river})
            for size in (1, 2, 3, 4):
                for row in itertools.islice(itertools.permutations(names, size), 12):
                    for weirs in itertools.islice(itertools.product(book.river.weirs, repeat=size), 9):
                        thing = tuple((name, weirs[place], row[(place + 1) % size]) for place, name in enumerate(row))
                        wanted = plain_is_wheel(book, day, one, other, thing)
                        self.assertIs(is_wheel(book, day, one, other, thing), wanted)
                        right_ones += wanted
        self.assertGreater(right_ones, 10)


if __name__ == "__main__":
    unittest.main()
