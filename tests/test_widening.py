"""widening.py: points 9.1 to 9.3 and 9.5."""

import unittest

from tests.samples import (Case, ODD_VALUES, first_books, fork_rights, one_weir, small_days, some_day, wrong_kinds)
from weirkeepers.books import Book
from weirkeepers.days import Day
from weirkeepers.dealing import deal, first_sharing
from weirkeepers.errors import NoRight, NotDay, NotFirstKind, NoWeir
from weirkeepers.rain import Rain
from weirkeepers.rights import Rights
from weirkeepers.rivers import River
from weirkeepers.sharings import Sharing
from weirkeepers.verdict import need_first
from weirkeepers.widening import (Change, Harm, Widening, by_widening, is_widening, reached, widened_change,
                                  widening_harm)

MUCH = 10 ** 30


def branches():
    """A book in which a goes ahead of b, and both of c: a passes x, m and s, b passes y and m, c passes m and s."""
    river = River([("m", "s"), ("y", "m"), ("s", "sea"), ("x", "m")])
    rights = Rights(river, [("c", "m", "sea"), ("b", "y", "m"), ("a", "x", "sea")])
    return Book.alike(rights, "abc")


def harm_by_words(book, name):
    """The tuple (harmer, weir, beyond) by the words of the points, or None."""
    rights = book.rights
    for harmer in rights:
        shared = [weir for weir in rights.way(harmer) if weir in rights.way(name)]
        beyond = [weir for weir in rights.way(harmer) if weir not in rights.way(name)]
        if harmer != name and shared and beyond and book.goes_ahead(shared[0], harmer, name):
            return (harmer, shared[0], beyond[0])
    return None


class ChangeTest(Case):

    def test_gains(self):
        rights = fork_rights()
        change = Change(after=Sharing(rights, {"p": 2, "q": 1, "s": 2, "sea": MUCH}),
                        before=Sharing(rights, {"p": 1, "q": 2, "r": 4, "s": 2}))
        self.assertEqual([change.gain(name) for name in rights], [1, -1, -4, 0, MUCH])
        self.assertEqual((change.winners, change.losers, change.total), (("p", "sea"), ("q", "r"), MUCH - 4))
        self.assertEqual((change.before["r"], change.after["r"]), (4, 0))
        for value in ODD_VALUES:
            self.fails(NoRight(value), change.gain, value)
        empty = Change(Sharing(one_weir(), {}), Sharing(one_weir(), {}))
        self.assertEqual((empty.winners, empty.losers, empty.total), ((), (), 0))

    def test_equality(self):
        rights = one_weir("b", "c")
        one, other = Sharing(rights, {"b": 1}), Sharing(rights, {"c": 1})
        self.assertEqual(Change(one, other), Change(Sharing(rights, {"b": 1}), Sharing(rights, {"c": 1})))
        self.equals_nothing_else(Change(one, other), Change(other, one), Change(one, one), Change(other, other),
                                 (one, other))


class HarmTest(Case):

    def harms(self, made):
        """A harm of each of the three classes with these attributes."""
        return [made(Harm), made(Widening), made(Rain)]

    def test_told(self):
        values = ("s", "r", "w", "v", 1, None)
        told = [harm.told() for harm in self.harms(lambda kind: kind(*values))]
        self.assertEqual(told, [("s", "r", "w", "v"), ("widening", "s", "r", "w", "v"), ("rain", "s", "r", "w", "v")])
        names = ("harmed", "harmer", "weir", "beyond", "before", "after")
        for harm in self.harms(lambda kind: kind(**dict(zip(names, values)))):
            self.assertEqual(tuple(getattr(harm, name) for name in names), values)
            self.assertIsInstance(harm, Harm)

    def test_equality(self):
        rights = one_weir("a", "b")
        days = [Day(rights, {}, {}), Day(rights, {}, {"w": 1})]
        values = ["a", "b", "w", "w"] + days
        harms = self.harms(lambda kind: kind(*values))
        twins = self.harms(lambda kind: kind("a", "b", "w", "w", Day(rights, {}, {}), Day(rights, {}, {"w": 1})))
        for place, harm in enumerate(harms):
            self.assertEqual(harm, twins[place])
            rows = [values[:at] + ["x" if at < 4 else days[5 - at]] + values[at + 1:] for at in range(6)]
            others = [self.harms(lambda kind: kind(*row))[place] for row in rows]
            self.equals_nothing_else(harm, *(harms[:place] + harms[place + 1:] + others + [harm.told()]))

    def test_played(self):
        book = branches()
        harm = widening_harm(book, "b")
        self.assertEqual(harm.played(book=book), Change(Sharing(book.rights, {"b": 1}), Sharing(book.rights, {"a": 1})))
        for other, kind in wrong_kinds():
            self.fails(NotFirstKind(kind), harm.played, other)


class WideningTest(Case):

    def test_each_right(self):
        book = branches()
        rights = book.rights
        before = Day(rights, {"a": 1, "b": 1}, {"m": 1, "x": 0, "y": 3, "s": 3})
        found = widening_harm(book, "b")
        self.assertIsInstance(found, Widening)
        self.assertEqual(found, Widening("b", "a", "m", "x", before, before.with_water("x", 1)))
        self.assertIsNone(widening_harm(name="a", book=book))
        before = Day(rights, {"b": 1, "c": 1}, {"m": 1, "x": 3, "y": 0, "s": 3})
        self.assertEqual(widening_harm(book, "c"), Widening("c", "b", "m", "y", before, before.with_water("y", 1)))
        self.assertEqual([harm.harmed for harm in by_widening(book)], ["c", "b"])
        self.assertEqual(by_widening(Book(one_weir(), {})), [])
        self.assertEqual(by_widening(Book.alike(one_weir("a", "b"), "ba")), [])

    def test_books_of_other_kinds_come_first(self):
        for book, kind in wrong_kinds():
            day = Day(book.rights, {}, {})
            for call, rest in [(widening_harm, [[]]), (by_widening, []), (is_widening, [None]),
                               (widened_change, [day, [], None]), (reached, [day, []])]:
                self.fails(NotFirstKind(kind), call, book, *rest)

    def test_unknown_rights(self):
        for value in ODD_VALUES + ["m"]:
            if value != "a":
                self.fails(NoRight(value), widening_harm, branches(), value)

    def test_is_widening_of_any_value(self):
        book = branches()
        for thing in [("b", "a", "m", "x"), ("b", "a", "m", "s"), ("c", "b", "m", "y"), ("c", "a", "m", "x"),
                      ("c", "a", "s", "x")]:
            self.assertTrue(is_widening(book, thing), thing)
            self.assertFalse(is_widening(book, list(thing)), thing)
            self.assertFalse(is_widening(book, thing + ("x",)), thing)
            self.assertFalse(is_widening(book, thing[:3]), thing)
            for place in range(4):
                for value in [None, True, 0, "zz", "sea", "", [], ("a",)]:
                    self.assertFalse(is_widening(book, thing[:place] + (value,) + thing[place + 1:]))
        for thing in [("a", "b", "m", "y"), ("b", "a", "m", "m"), ("b", "a", "x", "x"), ("b", "a", "s", "x"),
                      ("c", "b", "m", "m"), ("a", "a", "m", "x"), ("b", "a", "m", "y"), ("x", "m", "a", "b")]:
            self.assertFalse(is_widening(thing=thing, book=book), thing)
        for value in ODD_VALUES:
            self.assertFalse(is_widening(book, value))

    def test_against_all_small_days(self):
        harmed = 0
        for _, book, _ in first_books(160, 3, 3):
            rights = book.rights
            line = need_first(book)
            hurt = {name: False for name in rights}
            for day in small_days(rights, 1, 2):
                before = deal(day, line)
                for weir in rights.river:
                    after = deal(day.widened(weir, 1), line)
                    for name in rights:
                        hurt[name] = hurt[name] or after[name] < before[name]
            for name in rights:
                found = widening_harm(book, name)
                self.assertEqual(found is not None, hurt[name])
                harmed += hurt[name]
            self.assertEqual([harm.harmed for harm in by_widening(book)], [name for name in rights if hurt[name]])
        self.assertGreater(harmed, 20)

    def test_the_days_show_it(self):
        for _, book, _ in first_books(150, 7, 7):
            for name in book.rights:
                found = widening_harm(book, name)
                row = harm_by_words(book, name)
                self.assertEqual(found and (found.harmer, found.weir, found.beyond), row)
                if found is None:
                    continue
                self.assertEqual(found.told(), ("widening", name) + row)
                self.assertTrue(is_widening(book, found.told()[1:]))
                harmer, weir, beyond = row
                self.assertEqual(found.before, Day(book.rights, {name: 1, harmer: 1}, {weir: 1, beyond: 0},
                                                   water=len(book.rights)))
                self.assertEqual(found.after, found.before.widened(beyond, 1))
                self.assertEqual(found.played(book), Change(Sharing(book.rights, {name: 1}),
                                                            Sharing(book.rights, {harmer: 1})))

    def test_is_widening_by_the_words(self):
        for dice, book, _ in first_books(60, 5, 5):
            rights = book.rights
            for _ in range(20 if len(rights) else 0):
                harmed, harmer = dice.choice(rights.names), dice.choice(rights.names)
                weir, beyond = dice.choice(book.river.weirs), dice.choice(book.river.weirs)
                wanted = (rights.passes(harmed, weir) and rights.passes(harmer, weir)
                          and book.goes_ahead(weir, harmer, harmed) and rights.passes(harmer, beyond)
                          and not rights.passes(harmed, beyond))
                self.assertEqual(is_widening(book, (harmed, harmer, weir, beyond)), wanted)


class WidenedChangeTest(Case):

    def test_cubes(self):
        book = branches()
        day = Day(book.rights, {"a": 5, "b": 9, "c": 9}, {"x": 1, "y": 9, "m": 6, "s": 3})
        self.assertEqual(widened_change(book, day, "x"), Change(
            Sharing(book.rights, {"a": 1, "b": 5}), Sharing(book.rights, {"a": 2, "b": 4})))
        change = widened_change(cubes=9, weir="x", day=day, book=book)
        self.assertEqual((change.after["a"], change.winners, change.losers, change.total), (3, ("a",), ("b",), 0))
        self.assertEqual(widened_change(book, day, "m", 3).gain("b"), 3)
        self.assertEqual(reached(book, day, "x"), ("b", "a"))
        self.assertEqual(reached(weir="y", day=day, book=book), ())

    def test_too_much_water(self):
        book = branches()
        day = Day(book.rights, {}, {"x": 1, "m": MUCH})
        self.fails(NotDay("x"), widened_change, book, day, "x", MUCH)
        self.fails(NotDay("x"), widened_change, book, day, "x", MUCH + 1)
        self.fails(NotDay("m"), widened_change, book, day, "m")
        self.fails(NotDay("m"), reached, book, day, "m")
        self.assertEqual(widened_change(book, day, "x", MUCH - 1).total, 0)
        for value in ODD_VALUES + ["c"]:
            if value != "a":
                self.fails(NoWeir(value), widened_change, book, day, value, MUCH + 1)
                self.fails(NoWeir(value), reached, book, day, value)

    def test_by_the_words(self):
        for dice, book, day in first_books(150, 6, 6):
            for weir in book.river:
                cubes = dice.choice([1, 1, 2, 5])
                after = day.with_water(weir, day.water(weir) + cubes)
                self.assertEqual(widened_change(book, day, weir, cubes),
                                 Change(first_sharing(book, day), first_sharing(book, after)))
                change = widened_change(book, day, weir)
                self.assertEqual(reached(book, day, weir),
                                 tuple(name for name in book.rights if change.gain(name) != 0))

    def test_a_book_that_cannot_harm(self):
        free = 0
        for dice, book, day in first_books(120, 5, 5):
            if not by_widening(book):
                free += 1
                for _ in range(5):
                    weir = dice.choice(book.river.weirs)
                    day = some_day(dice, book.rights, 3)
                    names = reached(book, day, weir)
                    self.assertLessEqual(len(names), 1)
                    for name in names:
                        self.assertEqual(widened_change(book, day, weir).gain(name), 1)
        self.assertGreater(free, 10)


if __name__ == "__main__":
    unittest.main()
