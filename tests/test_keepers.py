"""keepers.py: points 5.1 to 5.3."""

import itertools
import unittest

from tests.samples import Case, ODD_VALUES, around, fork_rights, many_books, one_weir, unlike
from weirkeepers.books import Book
from weirkeepers.days import Day
from weirkeepers.errors import NoRight, NotBook, NotSharing, NoWeir
from weirkeepers.keepers import Keeper, heeded, is_rest, offer, step
from weirkeepers.meetings import meet
from weirkeepers.settled import is_settled
from weirkeepers.sharings import Sharing, fits
from weirkeepers.verdict import Kind, judge

MUCH = 10 ** 30
MOST = 10 ** 31


def fork_book():
    """A book over the rights of the fork."""
    return Book(fork_rights(), {"a": ("s", "q"), "b": ("r", "s"), "c": ("q", "p"), "d": ("sea", "p")})


def fork_day():
    """A day of the rights of the fork."""
    return Day(fork_rights(), {"p": 3, "q": 2, "r": 4, "s": 2, "sea": 9}, {"a": 3, "b": 4, "c": 4, "d": 5})


def amounts_of(p, q, r, s, sea):
    """Amounts of the rights of the fork, added in another order than theirs."""
    return {"sea": sea, "s": s, "r": r, "q": q, "p": p}


def plain_step(book, day, amounts):
    """The step by the words of the points."""
    given = {}
    for name in book.rights.names:
        given[name] = day.call(name)
        for weir in book.rights.way(name):
            ahead = [other for other in book.rights.passing(weir) if book.goes_ahead(weir, other, name)]
            given[name] = min(given[name], max(0, day.water(weir) - sum(amounts[other] for other in ahead)))
    return given


class HeededTest(Case):

    def test_rights_ahead_at_some_weir(self):
        book = fork_book()
        self.assertEqual([heeded(book, name) for name in book.rights.names], [("q", "sea"), ("s",), (), ("r",), ()])
        self.assertEqual([heeded(unlike(), name) for name in "ab"], [("b",), ("a",)])
        self.assertEqual([heeded(around(), name) for name in "abc"], [("c",), ("a",), ("b",)])
        rights = one_weir("d", "a", "c", "b")
        self.assertEqual(heeded(name="b", book=Book.alike(rights, "acdb")), ("d", "a", "c"))

    def test_unknown_rights(self):
        day = Day(unlike().rights, {}, {})
        for value in ODD_VALUES + ["up", "B"]:
            if value != "a":
                self.fails(NoRight(value), heeded, unlike(), value)
                self.fails(NoRight(value), Keeper, unlike(), day, value)

    def test_by_the_words(self):
        for _, book, _ in many_books(150):
            for name in book.rights.names:
                wanted = [other for other in book.rights.names if any(
                    book.goes_ahead(weir, other, name) for weir in meet(book.rights, name, other))]
                self.assertEqual(heeded(book, name), tuple(wanted))


class OfferTest(Case):

    def test_what_those_ahead_leave(self):
        book = fork_book()
        day = fork_day()
        amounts = amounts_of(1, 2, 1, 2, 3)
        self.assertEqual(offer(book, day, "a", "q", amounts), 1)
        self.assertEqual(offer(book, day, "a", "s", amounts), 3)
        self.assertEqual(offer(book, day, "b", "s", amounts), 3)
        self.assertEqual(offer(book, day, "c", "p", amounts), 2)
        self.assertEqual(offer(amounts=amounts, name="p", weir="d", day=day, book=book), 2)

    def test_an_offer_is_never_below_0(self):
        book = fork_book()
        day = fork_day()
        for cubes, wanted in [(0, 5), (4, 1), (5, 0), (6, 0), (MUCH, 0), (MOST, 0)]:
            self.assertEqual(offer(book, day, "d", "p", amounts_of(9, 9, 9, 9, cubes)), wanted)
        most = Day(book.rights, {}, {}, call=MUCH, water=MUCH)
        self.assertEqual(offer(book, most, "d", "p", amounts_of(MOST, MOST, MOST, MOST, MUCH - 1)), 1)
        self.assertEqual(offer(book, most, "d", "sea", amounts_of(MOST, MOST, MOST, MOST, MOST)), MUCH)

    def test_errors_in_their_order(self):
        book = fork_book()
        day = fork_day()
        for value in ODD_VALUES:
            if value != "a":
                self.fails(NoWeir(value), offer, book, day, value, value, {})
                self.fails(NoRight(value), offer, book, day, "b", value, {})
        self.fails(NoRight("a"), offer, book, day, "b", "a", {})
        self.fails(NotBook("pass", "a", "p"), offer, book, day, "a", "p", {})
        self.fails(NotSharing("p"), offer, book, day, "a", "q", {})


class AmountsTest(Case):

    def test_each_that_takes_amounts(self):
        book = fork_book()
        day = fork_day()
        keeper = Keeper(book, day, "r")
        takers = [lambda amounts: offer(book, day, "b", "r", amounts), keeper,
                  lambda amounts: step(book, day, amounts), lambda amounts: is_rest(book, day, amounts)]
        good = amounts_of(0, 0, 0, 0, 0)
        for taker in takers:
            for name in book.rights.names:
                for value in [None, True, False, -1, MOST + 1, MOST * 10, "1", [], [1], (), (1,), "", [[True]]]:
                    self.fails(NotSharing(name), taker, good | {name: value})
                taker(good | {name: MOST})
                self.fails(NotSharing(name), taker, {other: 0 for other in good if other != name})
            self.fails(NotSharing("q"), taker, {"sea": -1, "s": -1, "q": True, "p": 0, "r": 0})
            self.fails(NotSharing("p"), taker, {})


class KeeperTest(Case):

    def test_attributes(self):
        keeper = Keeper(name="p", day=fork_day(), book=fork_book())
        self.assertEqual((keeper.name, keeper.heeds), ("p", ("q", "sea")))
        self.assertEqual(Keeper(fork_book(), fork_day(), "r").heeds, ())

    def test_the_least_of_call_and_offers(self):
        keeper = Keeper(fork_book(), fork_day(), "p")
        self.assertEqual(keeper(amounts_of(9, 0, 9, 9, 0)), 3)
        self.assertEqual(keeper(amounts=amounts_of(9, 2, 9, 9, 0)), 2)
        self.assertEqual(keeper(amounts_of(9, 2, 9, 9, 4)), 1)
        self.assertEqual(keeper(amounts_of(9, 5, 9, 9, 0)), 0)
        self.assertEqual([keeper(amounts_of(0, 0, 0, 0, 3)), keeper(amounts_of(0, 0, 0, 0, 3))], [2, 2])

    def test_no_amounts_but_those_heeded(self):
        for dice, book, day in many_books(80):
            names = book.rights.names
            amounts = {name: dice.randint(0, 4) for name in names}
            for name in names:
                keeper = Keeper(book, day, name)
                other = {key: amounts[key] if key in keeper.heeds else dice.randint(0, 9) for key in names}
                self.assertEqual(keeper(other), keeper(amounts))
                self.assertEqual(keeper.heeds, heeded(book, name))


class StepTest(Case):

    def test_all_keepers_at_once(self):
        given = step(fork_book(), fork_day(), amounts_of(1, 1, 3, 3, 3))
        self.assertEqual(given, {"p": 2, "q": 0, "r": 4, "s": 1, "sea": 5})
        self.assertEqual(list(given), ["p", "q", "r", "s", "sea"])
        day = Day(unlike().rights, {}, {}, call=2, water=2)
        self.assertEqual(step(amounts={"a": 1, "b": 1}, book=unlike(), day=day), {"a": 1, "b": 1})
        nobody = Book(one_weir(), {})
        self.assertEqual(step(nobody, Day(nobody.rights, {}, {}), {}), {})
        self.assertIs(is_rest(nobody, Day(nobody.rights, {}, {}), {}), True)

    def test_arguments_stay_and_results_are_new(self):
        book = fork_book()
        day = fork_day()
        amounts = amounts_of(1, 1, 3, 3, 3)
        first = step(book, day, amounts)
        first["p"] = 99
        self.assertEqual(amounts, amounts_of(1, 1, 3, 3, 3))
        self.assertEqual(step(book, day, amounts)["p"], 2)
        self.assertEqual(day, fork_day())

    def test_rest(self):
        book = unlike()
        day = Day(book.rights, {"a": 2, "b": 2}, {"up": 2, "low": 2})
        at_rest = [pair for pair in itertools.product(range(4), repeat=2)
                   if is_rest(book, day, {"b": pair[1], "a": pair[0]})]
        self.assertEqual(at_rest, [(0, 2), (1, 1), (2, 0)])
        self.assertIs(is_rest(amounts={"a": 2, "b": 1}, day=day, book=book), False)

    def test_rest_with_more_than_the_water(self):
        book = around()
        day = Day(book.rights, {}, {"w": 2}, call=5)
        amounts = {"a": 1, "b": 1, "c": 1}
        self.assertIs(is_rest(book, day, amounts), True)
        self.assertFalse(fits(day, Sharing(book.rights, amounts)))

    def test_by_the_words(self):
        for dice, book, day in many_books(250, 5, 6, 3):
            names = book.rights.names
            kind = judge(book).kind
            for _ in range(4):
                amounts = {name: dice.randint(0, 4) for name in dice.sample(names, len(names))}
                wanted = plain_step(book, day, amounts)
                self.assertEqual(step(book, day, amounts), wanted)
                self.assertIs(is_rest(book, day, amounts), wanted == amounts)
                for name in names:
                    self.assertEqual(Keeper(book, day, name)(amounts), wanted[name])
                    offers = [offer(book, day, weir, name, amounts) for weir in book.rights.way(name)]
                    self.assertEqual(min(offers + [day.call(name)]), wanted[name])
            for cubes in itertools.islice(itertools.product(*[range(day.call(name) + 1) for name in names]), 300):
                amounts = dict(zip(names, cubes))
                sharing = Sharing(book.rights, amounts)
                if fits(day, sharing):
                    self.assertEqual(is_rest(book, day, amounts), is_settled(book, day, sharing))
                elif kind != Kind.NONE:
                    self.assertFalse(is_rest(book, day, amounts))


if __name__ == "__main__":
    unittest.main()
