"""rain.py: points 9.4 and 9.5."""

import unittest

from tests.samples import Case, ODD_VALUES, first_books, one_weir, small_days, wrong_kinds
from tests.test_widening import branches
from weirkeepers.books import Book
from weirkeepers.days import Day
from weirkeepers.dealing import deal, first_sharing
from weirkeepers.errors import NoRight, NotDay, NotFirstKind, NoWeir
from weirkeepers.rain import Rain, by_rain, is_rain, rain_change, rain_harm, spared
from weirkeepers.rights import Rights
from weirkeepers.rivers import River
from weirkeepers.sharings import Sharing
from weirkeepers.verdict import need_first
from weirkeepers.widening import Change, by_widening

MUCH = 10 ** 30


def course():
    """A book of one course u, v, w, x: a passes all, b the first two, c the second, d the last two."""
    river = River([("x", "sea"), ("v", "w"), ("u", "v"), ("w", "x")])
    rights = Rights(river, [("d", "w", "sea"), ("c", "v", "v"), ("b", "u", "v"), ("a", "u", "sea")])
    return Book.alike(rights, "abcd")


def harm_by_words(book, name):
    """The tuple (harmer, weir, beyond) by the words of the points, or None."""
    rights = book.rights
    below = rights.river.course(rights.last(name))[1:]
    for harmer in rights:
        shared = [weir for weir in rights.way(harmer) if weir in rights.way(name)]
        if shared and book.goes_ahead(shared[0], harmer, name) and any(weir in rights.way(harmer) for weir in below):
            return (harmer, shared[0], below[0])
    return None


class RainTest(Case):

    def test_each_right(self):
        book = course()
        before = Day(book.rights, {"a": 1, "b": 1}, {"u": 1, "v": 4, "w": 0, "x": 4})
        after = Day(book.rights, {"a": 1, "b": 1}, {"u": 1, "v": 4, "w": 1, "x": 5})
        found = rain_harm(book, "b")
        self.assertIsInstance(found, Rain)
        self.assertEqual(found, Rain("b", "a", "u", "w", before, after))
        self.assertEqual(rain_harm(book, "c").told(), ("rain", "c", "a", "v", "w"))
        self.assertEqual((rain_harm(book, "d"), rain_harm(name="a", book=book)), (None, None))
        self.assertEqual([harm.harmed for harm in by_rain(book)], ["c", "b"])
        self.assertEqual([harm.harmed for harm in by_widening(book)], ["d", "c", "b"])
        self.assertEqual(spared(book), ("d",))
        self.assertEqual((by_rain(branches())[0].told(), spared(branches())), (("rain", "b", "a", "m", "s"), ("c",)))

    def test_one_weir_and_no_rights(self):
        for book in [Book(one_weir(), {}), Book.alike(one_weir("a", "b"), "ab")]:
            self.assertEqual((by_rain(book), spared(book)), ([], ()))
            self.assertTrue(all(rain_harm(book, name) is None for name in book.rights))

    def test_books_of_other_kinds_come_first(self):
        for book, kind in wrong_kinds():
            day = Day(book.rights, {}, {})
            for call, rest in [(rain_harm, [[]]), (by_rain, []), (is_rain, [None]), (rain_change, [day, [], None]),
                               (spared, [])]:
                self.fails(NotFirstKind(kind), call, book, *rest)

    def test_unknown_rights(self):
        for value in ODD_VALUES + ["x"]:
            if value != "a":
                self.fails(NoRight(value), rain_harm, course(), value)

    def test_is_rain_of_any_value(self):
        book = course()
        for thing in [("b", "a", "u", "w"), ("b", "a", "v", "w"), ("b", "a", "u", "x"), ("c", "a", "v", "x")]:
            self.assertTrue(is_rain(book, thing), thing)
            self.assertFalse(is_rain(book, list(thing)), thing)
            self.assertFalse(is_rain(book, thing + ("x",)), thing)
            for place in range(4):
                for value in [None, True, 0, "zz", "sea", "", [], ("a",)]:
                    self.assertFalse(is_rain(book, thing[:place] + (value,) + thing[place + 1:]))
        for thing in [("c", "b", "v", "w"), ("b", "a", "u", "v"), ("c", "a", "v", "u"), ("a", "b", "u", "w"),
                      ("d", "a", "w", "x"), ("a", "a", "u", "w"), ("c", "a", "u", "w"), ("b", "a", "w", "x")]:
            self.assertFalse(is_rain(thing=thing, book=book), thing)
        for value in ODD_VALUES:
            self.assertFalse(is_rain(book, value))

    def test_against_all_small_days(self):
        harmed = 0
        for _, book, _ in first_books(200, 3, 3):
            rights = book.rights
            line = need_first(book)
            hurt = {name: False for name in rights}
            for day in small_days(rights, 1, 2):
                before = deal(day, line)
                for weir in rights.river:
                    after = deal(day.rained(weir, 1), line)
                    for name in rights:
                        hurt[name] = hurt[name] or after[name] < before[name]
            for name in rights:
                self.assertEqual(rain_harm(book, name) is not None, hurt[name])
                harmed += hurt[name]
        self.assertGreater(harmed, 10)

    def test_the_days_show_it(self):
        shown = 0
        for _, book, _ in first_books(200, 7, 7):
            wide = [harm.harmed for harm in by_widening(book)]
            rows = {name: harm_by_words(book, name) for name in book.rights}
            self.assertEqual([harm.harmed for harm in by_rain(book)], [name for name in rows if rows[name]])
            self.assertEqual(spared(book), tuple(name for name in wide if not rows[name]))
            for name, row in rows.items():
                found = rain_harm(book, name)
                self.assertEqual(found and found.told(), row and ("rain", name) + row)
                if found is None:
                    continue
                shown += 1
                harmer, weir, beyond = row
                self.assertIn(name, wide)
                self.assertTrue(is_rain(book, found.told()[1:]))
                self.assertEqual(found.before, Day(book.rights, {name: 1, harmer: 1}, {weir: 1, beyond: 0},
                                                   water=len(book.rights)))
                self.assertEqual(found.after, found.before.rained(beyond, 1))
                self.assertEqual(found.played(book), Change(Sharing(book.rights, {name: 1}),
                                                            Sharing(book.rights, {harmer: 1})))
        self.assertGreater(shown, 20)

    def test_is_rain_by_the_words(self):
        for dice, book, _ in first_books(60, 5, 5):
            rights = book.rights
            for _ in range(20 if len(rights) else 0):
                harmed, harmer = dice.choice(rights.names), dice.choice(rights.names)
                weir, beyond = dice.choice(book.river.weirs), dice.choice(book.river.weirs)
                last = rights.last(harmed)
                wanted = (rights.passes(harmed, weir) and rights.passes(harmer, weir)
                          and book.goes_ahead(weir, harmer, harmed) and rights.passes(harmer, beyond)
                          and book.river.is_down(last, beyond) and beyond != last)
                self.assertEqual(is_rain(book, (harmed, harmer, weir, beyond)), wanted)


class RainChangeTest(Case):

    def test_cubes(self):
        book = course()
        day = Day(book.rights, {"a": 5, "b": 9, "c": 1, "d": 9}, {"u": 7, "v": 7, "w": 1, "x": 4})
        self.assertEqual(rain_change(book, day, "w"), Change(
            Sharing(book.rights, {"a": 1, "b": 6}), Sharing(book.rights, {"a": 2, "b": 5})))
        change = rain_change(cubes=9, weir="w", day=day, book=book)
        self.assertEqual((change.after.cubes(), change.total), ({"d": 5, "c": 0, "b": 2, "a": 5}, 5))

    def test_too_much_water(self):
        book = course()
        day = Day(book.rights, {}, {"u": 1, "v": 2, "w": 2, "x": 5})
        self.fails(NotDay("x"), rain_change, book, day, "u", MUCH - 3)
        self.fails(NotDay("v"), rain_change, book, day, "u", MUCH - 1)
        self.fails(NotDay("u"), rain_change, book, day, "u", MUCH)
        self.fails(NotDay("w"), rain_change, book, day, "w", MUCH + 1)
        self.assertEqual(rain_change(book, day, "u", MUCH - 5).total, 0)
        for value in ODD_VALUES + ["d"]:
            self.fails(NoWeir(value), rain_change, book, day, value, MUCH + 1)

    def test_by_the_words(self):
        for dice, book, day in first_books(120, 6, 6):
            for weir in book.river:
                cubes = dice.choice([1, 1, 2, 5])
                after = day
                for low in book.river.course(weir):
                    after = after.with_water(low, after.water(low) + cubes)
                self.assertEqual(rain_change(book, day, weir, cubes),
                                 Change(first_sharing(book, day), first_sharing(book, after)))


if __name__ == "__main__":
    unittest.main()
