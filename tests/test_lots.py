"""lots.py: point 9.7."""

import inspect
import itertools
import random
import unittest

from tests.samples import (Case, ODD_VALUES, around, many_rights, one_weir, some_book, some_promises, unlike)
from weirkeepers.books import Book
from weirkeepers.errors import NotBook, NotLots, TooMany
from weirkeepers.lots import Lots, idle, least_lots
from weirkeepers.promises import Promise
from weirkeepers.rights import Rights
from weirkeepers.rivers import River
from weirkeepers.twobooks import agree
from weirkeepers.verdict import Kind, judge


def all_lots(number):
    """All lots of so many offers in the order of lots."""
    return [lot for size in range(number + 1) for lot in itertools.combinations(range(number), size)]


def kind_by_words(book, offers, lot):
    """The kind of the book bent by the offers of the lot, or "refused"."""
    try:
        return judge(book.bent(*[offers[place] for place in sorted(lot)])).kind
    except NotBook:
        return "refused"


def offered():
    """The book of two weirs that rank a and b unlike, and offers to it."""
    return unlike(), [Promise("a", "b"), Promise("b", "a", "low"), Promise("a", "b", "up"), Promise("b", "a", "up")]


def drawn(count):
    """A list of (dice, book, offers) with up to 4 offers."""
    dice = random.Random(count)
    rows = []
    for rights in many_rights(count, 4, 5):
        book = some_book(dice, rights)
        offers = some_promises(dice, rights, 2) + some_promises(dice, rights, 2)
        rows.append((dice, book, offers))
    return rows


class LeastLotsTest(Case):

    def test_each_attribute(self):
        book, offers = offered()
        lots = least_lots(offers=offers, book=book)
        self.assertIsInstance(lots, Lots)
        self.assertEqual((lots.offers, lots.judged), (tuple(offers), 16))
        self.assertEqual(lots.good, ((0,), (1,), (2,), (0, 2), (1, 3)))
        self.assertEqual((lots.least, len(lots), list(lots)), (((0,), (1,), (2,)), 3, [(0,), (1,), (2,)]))
        self.assertEqual([lots.kind_of(*lot) for lot in all_lots(4)[:6]], [
            Kind.SOME, Kind.ONE, Kind.ONE, Kind.ONE, Kind.SOME, "refused"])

    def test_without_offers(self):
        lots = least_lots(unlike(), ())
        self.assertEqual((lots.offers, lots.good, lots.least, lots.judged, len(lots)), ((), (), (), 1, 0))
        self.assertEqual((lots.kind_of(), list(lots.traps()), lots.is_monotone), (Kind.SOME, [], True))
        self.assertIsNone(lots.cheapest([]))
        lots = least_lots(Book(one_weir(), {}), [])
        self.assertEqual((lots.good, lots.least, lots.cheapest([]), lots.kind_of()), (((),), ((),), (0, ()), Kind.ONE))

    def test_by_the_words(self):
        kinds = set()
        for dice, book, offers in drawn(120):
            lots = least_lots(book, dice.choice([list, tuple])(offers))
            told = {lot: kind_by_words(book, offers, lot) for lot in all_lots(len(offers))}
            kinds |= set(told.values())
            good = [lot for lot in told if told[lot] == Kind.ONE]
            least = [lot for lot in good if not any(set(other) < set(lot) for other in good)]
            self.assertEqual((lots.good, lots.least, lots.judged), (tuple(good), tuple(least), 2 ** len(offers)))
            self.assertEqual((list(lots), len(lots)), (least, len(least)))
            for lot in told:
                places = list(lot)
                dice.shuffle(places)
                self.assertEqual(lots.kind_of(*places), told[lot])
            traps = [(lot, place) for lot in good for place in range(len(offers))
                     if place not in lot and told[tuple(sorted(lot + (place,)))] != Kind.ONE]
            self.assertEqual((list(lots.traps()), lots.is_monotone), (traps, not traps))
            costs = [dice.randint(0, 3) for _ in offers]
            rows = [(sum(costs[place] for place in lot), at, lot) for at, lot in enumerate(least)]
            self.assertEqual(lots.cheapest(costs), (min(rows)[0], min(rows)[2]) if rows else None)
            self.assertEqual(idle(book, offers), tuple(
                place for place, offer in enumerate(offers)
                if told[(place,)] != "refused" and agree(book, book.bent(offer))))
        self.assertEqual(kinds, {"one", "some", "none", "refused"})

    def test_wrong_offers(self):
        book, offers = offered()
        for value in ODD_VALUES + [("a", "b", "up")]:
            for call in (least_lots, idle):
                self.fails(NotLots(1), call, book, [offers[0], value, None])
        strange = [Promise("zz", "a"), Promise("a", "zz"), Promise("a", "b", "zz"), Promise("a", "b", "sea"),
                   Promise("a", "a"), Promise([], "a"), Promise("a", None), Promise("a", "b", 1)]
        for offer in strange:
            for call in (least_lots, idle):
                self.fails(NotLots(2), call, book, (offers[0], offers[1], offer, strange[0]))
        apart = Rights(River([("a", "sea"), ("b", "a")]), [("p", "a", "sea"), ("q", "b", "b"), ("r", "b", "a")])
        book = Book.alike(apart, "pqr")
        self.fails(NotLots(0), least_lots, book, [Promise("p", "q")])
        self.fails(NotLots(1), least_lots, book, [Promise("p", "r"), Promise("p", "r", "b")])

    def test_six_offers_and_seven(self):
        rights = one_weir("a", "b", "c", "d")
        book = Book.alike(rights, "abcd")
        offers = [Promise(one, other) for one, other in itertools.combinations("abcd", 2)]
        lots = least_lots(book, offers)
        self.assertEqual((lots.judged, lots.least, len(lots.good)), (64, ((),), 24))
        self.fails(TooMany(7), least_lots, book, offers + [None])
        self.fails(TooMany(8), idle, book, [None] * 8)
        self.fails(NotLots(0), idle, book, [None] * 6)

    def test_rings(self):
        lots = least_lots(around(), [Promise("c", "a"), Promise("a", "b"), Promise("b", "c")])
        self.assertEqual((lots.kind_of(), lots.kind_of(0), lots.kind_of(1)), (Kind.NONE, "refused", Kind.ONE))
        self.assertEqual((lots.least, lots.good), (((1,), (2,)), ((1,), (2,), (1, 2))))


class LotsTest(Case):

    def test_kind_of_wrong_places(self):
        book, offers = offered()
        lots = least_lots(book, offers)
        self.assertEqual((lots.kind_of(3, 1), lots.kind_of(1, 3)), (Kind.ONE, Kind.ONE))
        for value in [True, False, None, -1, 4, 10 ** 39, "0", (), [0], (0,)]:
            self.fails(NotLots(value), lots.kind_of, 0, value, None)
        self.fails(NotLots(1), lots.kind_of, 1, 3, 1, 9)
        self.fails(NotLots(0), least_lots(book, []).kind_of, 0)

    def test_traps(self):
        book, offers = offered()
        lots = least_lots(book, offers)
        self.assertTrue(inspect.isgenerator(lots.traps()))
        self.assertEqual(list(lots.traps()), [
            ((0,), 1), ((0,), 3), ((1,), 0), ((1,), 2), ((2,), 1), ((2,), 3), ((0, 2), 1), ((0, 2), 3),
            ((1, 3), 0), ((1, 3), 2)])
        self.assertFalse(lots.is_monotone)
        lots = least_lots(book, [offers[0], offers[2]])
        self.assertEqual((list(lots.traps()), lots.is_monotone), ([], True))

    def test_a_trap_without_a_refusal(self):
        lots = least_lots(Book.alike(one_weir("a", "b", "c"), "abc"), [Promise("a", "c"), Promise("b", "c")])
        self.assertEqual(([lots.kind_of(0), lots.kind_of(1), lots.kind_of(0, 1)]), [Kind.NONE, Kind.ONE, Kind.ONE])
        self.assertEqual(list(lots.traps()), [((), 0)])

    def test_cheapest(self):
        book, offers = offered()
        lots = least_lots(book, offers)
        self.assertEqual(lots.cheapest([3, 2, 2, 0]), (2, (1,)))
        self.assertEqual(lots.cheapest(costs=[0, 0, 0, 0]), (0, (0,)))
        self.assertEqual(lots.cheapest([10 ** 30, 10 ** 30, 10 ** 30, 1]), (10 ** 30, (0,)))
        self.assertIsNone(least_lots(around(), [Promise("a", "c")]).cheapest([4]))

    def test_wrong_costs(self):
        book, offers = offered()
        lots = least_lots(book, offers)
        for costs in [[], [1, 2, 3], [None] * 5]:
            self.fails(NotLots(-1), lots.cheapest, costs)
        for value in [True, None, -1, 10 ** 30 + 1, "1", [], (1,)]:
            self.fails(NotLots(1), lots.cheapest, [1, value, 3, None])

    def test_later_changes_of_the_arguments(self):
        book, offers = offered()
        passed = list(offers)
        lots = least_lots(book, passed)
        costs = [1, 2, 3, 4]
        lots.cheapest(costs)
        self.assertEqual((passed, costs), (offers, [1, 2, 3, 4]))
        passed.clear()
        self.assertEqual((lots.offers, lots.kind_of(3)), (tuple(offers), Kind.SOME))


class IdleTest(Case):

    def test_offers_that_change_nothing(self):
        book, offers = offered()
        rows = [Promise("b", "a", "up"), Promise("a", "b"), Promise("a", "b", "low"), Promise("b", "a"), offers[1]]
        self.assertEqual(idle(book, rows), (0, 2))
        self.assertEqual(idle(book=book, offers=()), ())
        self.assertEqual(idle(around(), [Promise("a", "c"), Promise("c", "a"), Promise("b", "a")]), (0, 2))


if __name__ == "__main__":
    unittest.main()
