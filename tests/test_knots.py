"""knots.py: points 7.2 to 7.5."""

import itertools
import unittest

from tests.samples import (Case, ODD_VALUES, around, example, far, many_books, one_weir, three_ends, two_knots,
                           unlike)
from weirkeepers.books import Book
from weirkeepers.bounds import Bounds, bounds
from weirkeepers.days import Day
from weirkeepers.errors import TooMany
from weirkeepers.keepers import Keeper, step
from weirkeepers.knots import Knot, knots, room, steady, why_none
from weirkeepers.meetings import meet
from weirkeepers.promises import Promise
from weirkeepers.rights import Rights
from weirkeepers.rings import is_ring, rings
from weirkeepers.rivers import River
from weirkeepers.settled import is_settled
from weirkeepers.sharings import Sharing
from weirkeepers.unrest import restless
from weirkeepers.verdict import Kind, judge

MUCH = 10 ** 30
ALL = [room, steady, knots, why_none]


def square(call, water=None):
    """A book of two that quarrel, and a day on which each calls for so many cubes."""
    book = unlike()
    return book, Day(book.rights, {}, {}, call=call, water=call if water is None else water)


def slow(up=100):
    """A book and a day whose bounds close by one cube with each round."""
    book = unlike()
    return book, Day(book.rights, {}, {"up": up, "low": up + 1}, call=1000)


def unsound():
    """A book and a day with two weirs that are not sound, v first, and a knot without a choice at w."""
    river = River([("s", "sea"), ("v", "s"), ("u", "s"), ("w", "s")])
    rows = [("e", "w", "w"), ("f", "w", "w"), ("g", "w", "w")]
    rows += [(name, weir, weir) for weir, names in [("u", "abc"), ("v", "pqr")] for name in names]
    rights = Rights(river, rows)
    promises = [Promise("a", "c"), Promise("p", "r"), Promise("e", "g")]
    return Book.alike(rights, "abcpqrefg", promises), Day(rights, {"a": 1}, {"s": 9, "v": 2, "u": 2, "w": 1}, call=1)


def plain_groups(book, loose):
    """The sets of loose rights that hang together by meeting."""
    groups = [{name} for name in loose]
    for one, other in itertools.combinations(loose, 2):
        if meet(book.rights, one, other):
            joined = [group for group in groups if one in group or other in group]
            groups = [group for group in groups if group not in joined] + [set().union(*joined)]
    order = book.rights.names
    return sorted([tuple(sorted(group, key=order.index)) for group in groups], key=lambda group: order.index(group[0]))


def plain_choices(book, day, names, loose):
    """The choices of a knot by the words of the point."""
    found = steady(book, day)
    choices = []
    for cubes in itertools.product(*[range(found.low(name), found.high(name) + 1) for name in names]):
        amounts = found.lows() | dict(zip(names, cubes))
        kept = all(Keeper(book, day, name)(amounts) == amounts[name] for name in names)
        counted = [name for name in book.rights if name in names or name not in loose]
        uses = [(weir, sum(amounts[other] for other in book.rights.passing(weir) if other in counted))
                for weir in book.river if any(book.rights.passes(name, weir) for name in names)]
        if kept and all(use <= day.water(weir) for weir, use in uses):
            choices.append(cubes)
    return tuple(choices)


class RoomTest(Case):

    def test_of_each_kind(self):
        self.assertEqual(room(*example()), 9)
        self.assertEqual(room(day=two_knots()[1], book=two_knots()[0]), 16)
        line = Book.alike(unlike().rights, "ba")
        self.assertEqual(room(line, example()[1]), 1)
        self.assertEqual(room(line, far()[1]), 1)
        self.assertEqual(room(around(), Day(around().rights, {}, {}, call=3, water=3)), 64)
        self.assertEqual(room(Book(one_weir(), {}), Day(one_weir(), {}, {})), 1)

    def test_4096_and_above(self):
        self.assertEqual(room(*square(63)), 4096)
        for call in ALL:
            call(*square(63))
            self.fails(TooMany(4225), call, *square(64))
            self.fails(TooMany((MUCH + 1) ** 2), call, *far())
        rights = Rights(unlike().river, [(name, "up", "sea") for name in "abcdefghij"])
        wide = Book(rights, {"up": "abcdefghij", "low": "jihgfedcba"})
        self.fails(TooMany((MUCH + 1) ** 10), room, wide, Day(rights, {}, {}, call=MUCH, water=MUCH))

    def test_the_60_rounds(self):
        book, day = slow(100)
        self.assertEqual(room(book, day), 41 * 41)
        self.assertEqual(room(*slow(123)), 64 * 64)
        self.fails(TooMany(65 * 65), room, *slow(124))
        self.fails(TooMany(65 * 65), knots, *slow(124))

    def test_by_the_words(self):
        for _, book, day in many_books(150):
            found = bounds(book, day)
            number = 1
            for name in book.rights:
                number *= found.high(name) - found.low(name) + 1
            if number > 4096:
                for call in ALL:
                    self.fails(TooMany(number), call, book, day)
            else:
                self.assertEqual(room(book, day), number)
            if judge(book).kind == Kind.ONE:
                self.assertEqual(number, 1)


class SteadyTest(Case):

    def test_all_rounds(self):
        book, day = slow(100)
        found = steady(book, day)
        self.assertIsInstance(found, Bounds)
        self.assertEqual((found.rounds, found.is_met, found.lows()), (100, True, {"a": 100, "b": 0}))
        self.assertEqual(steady(day=day, book=book), bounds(book, day, rounds=1000))
        self.assertEqual(steady(*slow(123)).rounds, 123)
        self.assertEqual(steady(*example()), bounds(*example(), rounds=0))

    def test_lows_and_highs_turn_into_each_other(self):
        for _, book, day in many_books(100):
            found = steady(book, day)
            self.assertEqual(found, bounds(book, day, rounds=1000))
            self.assertEqual(step(book, day, found.lows()), found.highs())
            self.assertEqual(step(book, day, found.highs()), found.lows())


class KnotsTest(Case):

    def test_the_example(self):
        found = knots(*example())
        self.assertEqual(len(found), 1)
        knot = found[0]
        self.assertIsInstance(knot, Knot)
        self.assertEqual((knot.names, knot.choices, len(knot)), (("a", "b"), ((0, 2), (1, 1), (2, 0)), 3))
        self.assertIsNone(why_none(*example()))

    def test_two_knots_on_one_day(self):
        one, other = knots(*two_knots())
        self.assertEqual((one.names, one.choices), (("a", "c"), ((0, 1), (1, 0))))
        self.assertEqual((other.names, other.choices), (("d", "b"), ((0, 1), (1, 0))))

    def test_a_knot_of_several_rights(self):
        book, day = three_ends()
        knot, = knots(book, day)
        self.assertEqual(knot.names, ("a", "b", "c", "d"))
        self.assertEqual(knot.choices, ((0, 0, 9, 9), (0, 2, 4, 12), (1, 0, 9, 8), (2, 0, 9, 7)))

    def test_no_knot(self):
        line = Book.alike(unlike().rights, "ba")
        self.assertEqual((knots(line, far()[1]), why_none(line, far()[1])), ([], None))
        nobody = Book(one_weir(), {})
        day = Day(nobody.rights, {}, {})
        self.assertEqual((knots(nobody, day), why_none(nobody, day)), ([], None))

    def test_a_knot_without_a_choice(self):
        book = around()
        day = Day(book.rights, {}, {}, call=1, water=1)
        knot, = knots(book, day)
        self.assertEqual((knot.names, knot.choices, len(knot)), (("a", "b", "c"), (), 0))
        self.assertEqual(why_none(book, day), ("knot", ("a", "b", "c")))

    def test_a_weir_that_is_not_sound(self):
        book = around()
        day = Day(book.rights, {}, {"w": 2}, call=1)
        self.assertEqual((knots(book, day), why_none(book, day)), ([], ("weir", "w")))
        self.assertIsNone(why_none(book, day.with_water("w", 3)))
        found = [(rows, day) for _, rows, day in many_books(300, 4, 7) if rings(rows)]
        sorts = set()
        for book, day in found:
            why = why_none(book, day)
            sorts.add(why and why[0])
            if why and why[0] == "weir":
                lows = steady(book, day).lows()
                self.assertTrue(any(row[0] == why[1] for row in rings(book)))
                self.assertGreater(sum(lows[name] for name in book.rights.passing(why[1])), day.water(why[1]))
        self.assertEqual(sorts, {None, "weir", "knot"})

    def test_a_knot_that_uses_too_much_at_one_of_its_weirs(self):
        rights = Rights(River([("v", "w"), ("w", "sea")]),
                        [("d", "v", "v"), ("a", "v", "sea"), ("b", "w", "w"), ("c", "w", "w")])
        book = Book(rights, {"v": "ad", "w": "abc"}, [Promise("a", "c", "w")])
        day = Day(rights, {}, {"v": 3, "w": 2}, call=5)
        knot, = knots(book, day)
        self.assertEqual((knot.names, knot.choices), (("d", "a", "b", "c"), ()))
        self.assertEqual(steady(book, day).highs(), {"d": 3, "a": 2, "b": 2, "c": 2})
        whole = {"d": 2, "a": 1, "b": 1, "c": 1}
        self.assertEqual(step(book, day, whole), whole)

    def test_choices_do_not_look_at_other_weirs(self):
        book, day = two_knots()
        rights = Rights(River(book.river.rows() + [("ring", "sea")]),
                        book.rights.rows() + [(name, "ring", "ring") for name in "xyz"])
        wide = Book(rights, book.orders() | {"ring": "xyz"}, [Promise("x", "z")])
        dry = Day(rights, day.calls() | {"x": 1, "y": 1, "z": 1}, day.waters() | {"ring": 2})
        self.assertEqual(why_none(wide, dry), ("weir", "ring"))
        self.assertEqual(knots(wide, dry), knots(book, day))

    def test_weirs_come_before_knots(self):
        book, day = unsound()
        self.assertEqual([knot.names for knot in knots(book, day)], [("e", "f", "g")])
        self.assertEqual(why_none(book, day), ("weir", "v"))
        day = day.with_water("v", 3)
        self.assertEqual(why_none(book, day), ("weir", "u"))
        day = day.with_water("u", 3)
        self.assertEqual(why_none(day=day, book=book), ("knot", ("e", "f", "g")))
        self.assertIsNone(why_none(book, day.with_water("w", 3)))

    def test_any_value_in_a_knot(self):
        knot = knots(*two_knots())[0]
        for value in ODD_VALUES + ["b", "d", "e", "ac", "w", ("a", "c"), ["a", "c"]]:
            self.assertIs(value in knot, value == "a")
        self.assertIs("c" in knot, True)

    def test_equality(self):
        one, other = knots(*two_knots())
        book, day = two_knots()
        less = knots(book, day.with_water("up", 2).with_water("low", 3))
        ones = [one, other, knots(*example())[0], knots(*square(1))[0]] + less[:1]
        for place, knot in enumerate(ones):
            for at, same in enumerate(ones):
                equal = (knot.names, knot.choices) == (same.names, same.choices)
                self.assertEqual((knot == same, place == at), (equal, place == at))
            self.equals_nothing_else(knot, knot.names, knot.choices)
        self.assertTrue(knots(*two_knots())[1] == other)
        self.assertTrue(knots(*square(2))[0] == ones[2])
        self.assertFalse(ones[2] == ones[3])

    def test_by_the_words(self):
        sizes = set()
        for _, book, day in many_books(300, 5, 6, 3):
            found = steady(book, day)
            loose = [name for name in book.rights.names if found.low(name) < found.high(name)]
            self.assertTrue(set(loose) <= set(restless(book)))
            groups = knots(book, day)
            self.assertEqual([knot.names for knot in groups], plain_groups(book, loose))
            for knot in groups:
                self.assertEqual(knot.choices, plain_choices(book, day, knot.names, loose))
                self.assertEqual(len(knot), len(knot.choices))
                sizes.add(len(knot))
            self.check_why(book, day, groups, loose)
        self.assertTrue(sizes >= {0, 1, 2}, sizes)

    def check_why(self, book, day, groups, loose):
        """What the day lacks is told as the points say; a ring shows it."""
        lows = steady(book, day).lows()
        wrong = [weir for weir in book.river if not set(loose) & set(book.rights.passing(weir))
                 and sum(lows[name] for name in book.rights.passing(weir)) > day.water(weir)]
        none = [knot.names for knot in groups if not knot.choices]
        why = ("weir", wrong[0]) if wrong else ("knot", none[0]) if none else None
        self.assertEqual(why_none(book, day), why)
        if wrong:
            three = itertools.permutations([name for name in book.rights.passing(wrong[0]) if lows[name] > 0], 3)
            self.assertTrue(any(is_ring(book, (wrong[0], *row)) for row in three))

    def test_results_are_new(self):
        book, day = two_knots()
        knots(book, day).clear()
        steady(book, day).lows().clear()
        self.assertEqual(len(knots(book, day)), 2)
        for choice in knots(book, day)[0].choices:
            cubes = steady(book, day).lows() | dict(zip(("a", "c"), choice)) | {"d": 1}
            self.assertTrue(is_settled(book, day, Sharing(book.rights, cubes)))


if __name__ == "__main__":
    unittest.main()
