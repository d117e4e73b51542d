"""sureness.py: points 7.9 and 7.10."""

import unittest

from tests.samples import (Case, ODD_VALUES, around, example, far, many_books, one_weir, three_ends, two_knots,
                           unlike)
from weirkeepers.books import Book
from weirkeepers.days import Day
from weirkeepers.errors import NoRight, NotSettled, TooMany
from weirkeepers.knots import steady
from weirkeepers.listing import settled_sharings
from weirkeepers.rights import Rights
from weirkeepers.rivers import River
from weirkeepers.sharings import Sharing
from weirkeepers.sureness import best_for, fairest, possible, regrets, sure, sure_table, unsure

MUCH = 10 ** 30


def none_day():
    """A book and a day without a settled sharing."""
    return around(), Day(around().rights, {}, {}, call=1, water=1)


def nobody():
    """A book and a day without rights."""
    book = Book(one_weir(), {})
    return book, Day(book.rights, {}, {})


def tuple_of(sharing):
    """The cubes of a sharing in the order of rights."""
    return tuple(sharing.cubes().values())


class SureTest(Case):

    def test_the_example(self):
        book, day = example()
        self.assertEqual((sure(book, day), possible(book, day)), ({"a": 0, "b": 0}, {"a": 2, "b": 2}))
        self.assertEqual(unsure(book, day), ("a", "b"))

    def test_two_knots_and_more(self):
        book, day = two_knots()
        self.assertEqual(sure(day=day, book=book), {"a": 0, "d": 0, "c": 0, "e": 3, "b": 0})
        self.assertEqual(possible(day=day, book=book), {"a": 1, "d": 1, "c": 1, "e": 3, "b": 1})
        self.assertEqual(unsure(day=day, book=book), ("a", "d", "c", "b"))
        self.assertEqual((list(sure(book, day)), list(possible(book, day))), (["a", "d", "c", "e", "b"],) * 2)
        book, day = three_ends()
        self.assertEqual((sure(book, day), possible(book, day)), (dict(a=0, b=0, c=4, d=7), dict(a=2, b=2, c=9, d=12)))

    def test_without_a_settled_sharing_and_without_rights(self):
        self.assertEqual((sure(*none_day()), possible(*none_day()), unsure(*none_day())), (None, None, ()))
        self.assertEqual((sure(*nobody()), possible(*nobody()), unsure(*nobody())), ({}, {}, ()))

    def test_one_settled_sharing(self):
        line = Book.alike(unlike().rights, "ba")
        day = Day(line.rights, {"a": MUCH, "b": MUCH - 1}, {}, water=MUCH)
        self.assertEqual((sure(line, day), possible(line, day)), ({"a": 1, "b": MUCH - 1},) * 2)
        self.assertEqual(unsure(line, day), ())

    def test_too_many(self):
        book, day = far()
        number = (MUCH + 1) ** 2
        for call in [sure, possible, unsure, best_for, fairest, sure_table]:
            self.fails(TooMany(number), call, book, day)
        self.fails(TooMany(number), best_for, book, day, "a", least=True)
        self.fails(NoRight("zz"), best_for, book, day, "zz")
        self.fails(TooMany(number), regrets, book, day, Sharing(book.rights, {"a": MUCH}))
        self.fails(NotSettled("a"), regrets, book, day, Sharing(book.rights, {"a": 1}))
        self.fails(NotSettled(None), regrets, book, day, Sharing(book.rights, {"a": MUCH, "b": 1}))

    def test_results_are_new(self):
        book, day = example()
        for call in (sure, possible):
            told = call(book, day)
            call(book, day).clear()
            self.assertEqual(call(book, day), told)

    def test_by_the_words(self):
        for _, book, day in many_books(200, 5, 6, 3):
            sharings = list(settled_sharings(book, day))
            names = book.rights.names
            if not sharings:
                self.assertEqual((sure(book, day), possible(book, day), unsure(book, day)), (None, None, ()))
                continue
            rows = {name: [sharing[name] for sharing in sharings] for name in names}
            self.assertEqual(sure(book, day), {name: min(rows[name]) for name in names})
            self.assertEqual(possible(book, day), {name: max(rows[name]) for name in names})
            self.assertEqual(unsure(book, day), tuple(name for name in names if len(set(rows[name])) > 1))
            found = steady(book, day)
            self.assertTrue(all(found.low(name) < found.high(name) for name in unsure(book, day)))


class BestForTest(Case):

    def test_names(self):
        book, day = example()
        self.assertEqual(tuple_of(best_for(book, day)), (0, 2))
        self.assertEqual(tuple_of(best_for(book, day, "a")), (2, 0))
        self.assertEqual(tuple_of(best_for(book, day, "b")), (0, 2))
        self.assertEqual(tuple_of(best_for(book, day, "a", least=True)), (0, 2))
        self.assertEqual(tuple_of(best_for(book, day, "b", least=True)), (2, 0))
        self.assertEqual(tuple_of(best_for(book, day, "b", "a", "b")), (0, 2))
        self.assertIsInstance(best_for(book, day), Sharing)

    def test_one_after_another(self):
        book, day = two_knots()
        self.assertEqual(tuple_of(best_for(book, day, "d")), (0, 1, 1, 3, 0))
        self.assertEqual(tuple_of(best_for(book, day, "d", "a")), (1, 1, 0, 3, 0))
        self.assertEqual(tuple_of(best_for(book, day, "a", "d", least=True)), (0, 0, 1, 3, 1))
        self.assertEqual(tuple_of(best_for(book, day, "e", "e", "c", "c", "b")), (0, 0, 1, 3, 1))
        book, day = three_ends()
        self.assertEqual(tuple_of(best_for(book, day, "c")), (0, 0, 9, 9))
        self.assertEqual(tuple_of(best_for(book, day, "c", "a")), (2, 0, 9, 7))
        self.assertEqual(tuple_of(best_for(book, day, "a", "c", least=True)), (0, 2, 4, 12))
        self.assertEqual(tuple_of(best_for(book, day, "b", "d", least=True)), (2, 0, 9, 7))

    def test_none_and_unknown_names(self):
        self.assertIsNone(best_for(*none_day()))
        self.assertIsNone(best_for(*none_day(), "a", "b", least=True))
        self.assertEqual(len(best_for(*nobody())), 0)
        for value in ODD_VALUES + ["w"]:
            if value != "a":
                self.fails(NoRight(value), best_for, *example(), "a", "a", value, "zz")
                self.fails(NoRight(value), best_for, *none_day(), value, least=True)
                self.fails(NoRight(value), best_for, *nobody(), value)

    def test_by_the_words(self):
        for dice, book, day in many_books(300, 4, 6, 3):
            sharings = list(settled_sharings(book, day))
            names = [dice.choice(book.rights.names) for _ in range(dice.randint(0, 3))] if book.rights.names else []
            for least in (False, True):
                found = best_for(book, day, *names, least=least)
                if not sharings:
                    self.assertIsNone(found)
                    continue
                sign = 1 if least else -1
                rows = [([sign * sharing[name] for name in names], place) for place, sharing in enumerate(sharings)]
                self.assertEqual(found, sharings[min(rows)[1]])


class FairestTest(Case):

    def test_the_example(self):
        book, day = example()
        self.assertEqual(tuple_of(fairest(book, day)), (1, 1))
        self.assertEqual(regrets(book, day, fairest(book, day)), {"a": 1, "b": 1})
        self.assertEqual(regrets(sharing=Sharing(book.rights, {"b": 2}), day=day, book=book), {"a": 2, "b": 0})

    def test_the_first_of_several(self):
        book, day = two_knots()
        self.assertEqual(tuple_of(fairest(day=day, book=book)), (0, 0, 1, 3, 1))
        day = Day(unlike().rights, {}, {}, call=1, water=1)
        self.assertEqual(tuple_of(fairest(unlike(), day)), (0, 1))
        book, day = three_ends()
        self.assertEqual(tuple_of(fairest(book, day)), (0, 0, 9, 9))
        sharing = Sharing(book.rights, {"b": 2, "c": 4, "d": 12})
        self.assertEqual(regrets(book, day, sharing), {"a": 2, "b": 0, "c": 5, "d": 0})

    def test_the_greatest_regret_counts_before_the_sum(self):
        book = unlike()
        day = Day(book.rights, {}, {}, call=63, water=63)
        self.assertEqual(tuple_of(fairest(book, day)), (31, 32))

    def test_none(self):
        self.assertIsNone(fairest(*none_day()))
        self.assertEqual(len(fairest(*nobody())), 0)
        self.assertEqual(regrets(*nobody(), fairest(*nobody())), {})

    def test_regrets_of_sharings_that_are_not_settled(self):
        book, day = example()
        self.fails(NotSettled("a"), regrets, book, day, Sharing(book.rights, {"a": 1}))
        self.fails(NotSettled(None), regrets, book, day, Sharing(book.rights, {"a": 3}))

    def test_by_the_words(self):
        several = 0
        for _, book, day in many_books(300, 4, 6, 3):
            sharings = list(settled_sharings(book, day))
            most = possible(book, day)
            rows = []
            for place, sharing in enumerate(sharings):
                told = regrets(book, day, sharing)
                self.assertEqual(told, {name: most[name] - sharing[name] for name in book.rights.names})
                self.assertEqual(list(told), list(book.rights.names))
                rows.append((sorted(told.values(), reverse=True), place))
            several += len(rows) > 1
            self.assertEqual(fairest(book, day), sharings[min(rows)[1]] if rows else None)
        self.assertGreater(several, 3)


class SureTableTest(Case):

    def test_sign_by_sign(self):
        river = River([("low", "sea"), ("up", "low"), ("side", "low")])
        rights = Rights(river, [("abcdefgh", "up", "sea"), ("b", "up", "sea"), ("cc", "side", "side")])
        book = Book(rights, {"up": ["abcdefgh", "b"], "low": ["b", "abcdefgh"], "side": ["cc"]})
        day = Day(rights, {"abcdefgh": 12, "b": 12, "cc": MUCH}, {"up": 12, "low": 12}, water=MUCH)
        self.assertEqual(sure_table(book, day), "\n".join([
            "abcdefgh                               0                              12",
            "b                                      0                              12",
            "cc       1000000000000000000000000000000 1000000000000000000000000000000"]))
        self.assertEqual({len(line) for line in sure_table(day=day, book=book).split("\n")}, {72})

    def test_the_special_texts(self):
        self.assertEqual((sure_table(*nobody()), sure_table(*none_day())), ("", "none"))

    def test_by_the_words(self):
        for _, book, day in many_books(60, 4, 6, 3):
            if sure(book, day) is None:
                self.assertEqual(sure_table(book, day), "none")
            else:
                lines = [name.ljust(8) + " " + str(sure(book, day)[name]).rjust(31) + " "
                         + str(possible(book, day)[name]).rjust(31) for name in book.rights.names]
                self.assertEqual(sure_table(book, day), "\n".join(lines))


if __name__ == "__main__":
    unittest.main()
