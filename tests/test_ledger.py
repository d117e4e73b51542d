"""ledger.py: points 10.1 to 10.5."""

import copy
import random
import unittest

from tests.samples import (Case, ODD_VALUES, around, book_order, crowded_rights, fork_rights, one_weir, some_book,
                           some_entries, some_rights, some_tanks, unlike)
from tests.test_gauges import known_ones, standing_by_words
from weirkeepers.books import Book
from weirkeepers.days import Day
from weirkeepers.dealing import first_sharing
from weirkeepers.entries import CallTold, FishOrder, Pledge, Release, SpringRead
from weirkeepers.errors import NoRight, NotBook, NotLedger
from weirkeepers.gauges import Gauges
from weirkeepers.ledger import Ledger, Page
from weirkeepers.promises import Promise
from weirkeepers.rights import Rights
from weirkeepers.rings import rings
from weirkeepers.rivers import River
from weirkeepers.settled import bar, is_settled
from weirkeepers.sharings import Sharing, fits
from weirkeepers.springs import Springs
from weirkeepers.tanks import Tanks
from weirkeepers.verdict import Kind, judge
from weirkeepers.walk import walked

ATTRIBUTES = ["day", "book", "void", "before", "released", "springs", "today", "sharing", "after"]


def two():
    """A book of one weir at which a goes ahead of b, both down to the sea, and tanks: a has one of 5 cubes."""
    rights = Rights(River([("w", "sea")]), [("b", "w", "sea"), ("a", "w", "sea")])
    return Book.alike(rights, "ab"), Tanks(rights, {"a": 5})


def year():
    """Entries of three days over the weir w."""
    return [SpringRead(0, 0, 0, "w", 10), FishOrder(0, 0, 0, "w", 2), CallTold(0, 0, 0, "a", 9),
            CallTold(0, 0, 0, "b", 9), SpringRead(1, 1, 0, "w", 4), Release(1, 1, 0, "a", 3), CallTold(1, 1, 0, "a", 9),
            CallTold(1, 1, 0, "b", 1), Release(2, 2, 0, "a", 8), FishOrder(2, 2, 0, "w", 0), CallTold(2, 2, 0, "a", 2),
            CallTold(2, 2, 0, "b", 4)]


def told(page):
    """The numbers of a page over one weir."""
    return (page.before, page.released, page.today.calls(), page.today.water("w"), page.sharing.cubes(), page.after)


def plain_book(book, entries, day, known):
    """The book and the void pledges of a page, by the words of the point."""
    rows = [entry for place, entry in enumerate(entries) if entry.KIND == "pledge" and entry.day <= day
            and entry not in entries[:place]]
    rows = known_ones(rows, known)
    rows.sort(key=lambda row: (row.known, row.number, book_order(book.rights, row)[2], row.day))
    void = []
    for row in rows:
        try:
            bent = book.bent(Promise(row.giver, row.taker, row.weir))
            kept = not rings(bent)
        except NotBook:
            kept = False
        if kept:
            book = bent
        else:
            void.append(row)
    return book, tuple(void)


def plain_pages(book, tanks, entries, days, known):
    """All attributes of all pages, by the words of the point."""
    rights = book.rights
    account = {name: 0 for name in tanks.names}
    pages = []

    def amount(kind, name, day):
        row = standing_by_words(entries, kind, name, day, known)
        return row.amount if row else 0

    for day in range(days):
        bent, void = plain_book(book, entries, day, known)
        before = dict(account)
        released = {name: amount("release", name, day) for name in tanks.names}
        springs = {weir: amount("spring", weir, day) + sum(released.get(name, 0) for name in rights.begin_at(weir))
                   for weir in rights.river}
        fish = {weir: amount("fish", weir, day) for weir in rights.river}
        calls = {name: amount("call", name, day) for name in rights}
        for name in tanks.names:
            calls[name] = min(calls[name], tanks.room(name) - before[name] + released[name])
        waters = {weir: max(0, sum(springs[high] for high in rights.river.upstream(weir)) - fish[weir])
                  for weir in rights.river}
        today = Day(rights, calls, waters)
        sharing = first_sharing(bent, today) if judge(bent).kind == Kind.ONE else walked(bent, today)
        account = {name: before[name] - released[name] + sharing[name] for name in tanks.names}
        pages.append([day, bent, void, before, released, Springs(rights.river, springs, fish), today, sharing,
                      dict(account)])
    return pages


def drawn(count, size=25):
    """A list of (dice, book, tanks, entries, days) with books without a ring."""
    dice = random.Random(count)
    rows = []
    while len(rows) < count:
        rights = (some_rights, crowded_rights)[len(rows) % 2](dice, 4, 4)
        book = some_book(dice, rights)
        if not rings(book):
            held = some_tanks(dice, rights)
            days = dice.randint(1, 5)
            rows.append((dice, book, held, some_entries(dice, held, dice.randint(0, size), days), days))
    return rows


def values(page):
    """All attributes of a page."""
    return [getattr(page, name) for name in ATTRIBUTES]


class MakingTest(Case):

    def test_attributes(self):
        book, tanks = two()
        ledger = Ledger(gauges=Gauges(tanks, *year()), book=book, days=3)
        self.assertEqual((ledger.book, ledger.tanks, ledger.days), (book, tanks, 3))
        self.assertEqual(Ledger(book, Gauges(tanks)).days, 12)
        self.assertEqual(ledger.gauges(), Gauges(tanks, *year()))

    def test_each_error_in_its_order(self):
        book, tanks = two()
        late = Gauges(tanks, CallTold(3, 0, 0, "a", 1), CallTold(2, 0, 0, "a", 1), CallTold(0, 0, 0, "a", 1))
        ringed = Book.alike(around().rights, "abc", [Promise("a", "c")])
        strange = Gauges(Tanks.none(one_weir("a", "b")), CallTold(3, 0, 0, "a", 1))
        for value in [None, True, False, 0, -1, 13, 10 ** 39, "3", [], (3,)]:
            self.fails(NotLedger(-1, "days"), Ledger, book, late, days=value)
            self.fails(NotLedger(-1, "days"), Ledger, ringed, strange, days=value)
        self.fails(NotLedger(-1, "tanks"), Ledger, book, strange, days=1)
        self.fails(NotLedger(-1, "tanks"), Ledger, ringed, strange, days=1)
        held = Gauges(Tanks.none(ringed.rights), CallTold(3, 0, 0, "a", 1))
        self.fails(NotLedger(-1, ("w", "a", "b", "c")), Ledger, ringed, held, days=2)
        self.fails(NotLedger(2, "day"), Ledger, book, late, days=3)
        self.fails(NotLedger(1, "day"), Ledger, book, late, days=2)
        self.assertEqual(len(Ledger(book, late, days=4).gauges()), 3)

    def test_the_collection_that_was_passed(self):
        book, tanks = two()
        gauges = Gauges(tanks, *year())
        ledger = Ledger(book, gauges, days=3)
        pages = ledger.pages()
        gauges.tell(CallTold(0, 0, 1, "a", 1), CallTold(9, 0, 1, "a", 1))
        self.assertEqual((len(ledger.gauges()), ledger.pages()), (12, pages))
        ledger.gauges().tell(CallTold(0, 0, 1, "a", 1))
        self.assertEqual((len(ledger.gauges()), ledger.pages()), (12, pages))
        self.assertEqual(len(gauges), 14)
        ledger.tell(CallTold(0, 0, 3, "a", 1))
        self.assertEqual(len(gauges), 14)

    def test_tell(self):
        book, tanks = two()
        ledger = Ledger(book, Gauges(tanks), days=3)
        self.assertEqual((ledger.tell(*year()), ledger.tell(*year()), ledger.tell()), (12, 0, 0))
        fine = CallTold(2, 0, 5, "a", 1)
        late = CallTold(3, 0, 0, "zz", 1)
        for wrong, cause in [(late, "day"), (None, "entry"), (CallTold(2, 0, 0, "zz", 1), "right"),
                             (SpringRead(2, 2, 0, "zz", 1), "weir"), (Release(2, 2, 0, "b", 1), "tank"),
                             (Release(4, 4, 0, "b", 1), "day"), ([], "entry"), ("a", "entry"), (3, "entry")]:
            self.fails(NotLedger(1, cause), ledger.tell, fine, wrong, None)
            self.assertEqual(ledger.gauges(), Gauges(tanks, *year()))
        self.assertEqual(ledger.tell(fine, fine), 1)


class PageTest(Case):

    def test_a_year_by_hand(self):
        book, tanks = two()
        pages = Ledger(book, Gauges(tanks, *year()), days=3).pages()
        self.assertEqual([told(page) for page in pages], [
            ({"a": 0}, {"a": 0}, {"b": 9, "a": 5}, 8, {"b": 3, "a": 5}, {"a": 5}),
            ({"a": 5}, {"a": 3}, {"b": 1, "a": 3}, 5, {"b": 1, "a": 3}, {"a": 5}),
            ({"a": 5}, {"a": 8}, {"b": 4, "a": 2}, 8, {"b": 4, "a": 2}, {"a": -1})])
        self.assertEqual([page.day for page in pages], [0, 1, 2])
        self.assertTrue(all(isinstance(page, Page) and page.book == book and page.void == () for page in pages))
        self.assertEqual(pages[1].springs, Springs(book.river, {"w": 7}, {"w": 2}))

    def test_as_known_by_each_day(self):
        book, tanks = two()
        ledger = Ledger(book, Gauges(tanks, *year()), days=3)
        ledger.tell(CallTold(0, 5, 0, "a", 1), SpringRead(0, 7, 0, "w", 4), Pledge(2, 8, 0, "a", "b"),
                    SpringRead(2, 8, 0, "w", 1), CallTold(2, 8, 0, "b", 8))
        wanted = {None: [{"b": 1, "a": 1}, {"b": 0, "a": 5}, {"b": 8, "a": 1}],
                  0: [{"b": 3, "a": 5}, {"b": 0, "a": 0}, {"b": 0, "a": 0}],
                  1: [{"b": 3, "a": 5}, {"b": 1, "a": 3}, {"b": 0, "a": 0}],
                  2: [{"b": 3, "a": 5}, {"b": 1, "a": 3}, {"b": 4, "a": 2}],
                  6: [{"b": 7, "a": 1}, {"b": 0, "a": 5}, {"b": 4, "a": 2}],
                  7: [{"b": 1, "a": 1}, {"b": 0, "a": 5}, {"b": 4, "a": 2}]}
        for known, rows in wanted.items():
            self.assertEqual([page.sharing.cubes() for page in ledger.pages(known)], rows, known)
        self.assertEqual([page.book == book for page in ledger.pages()], [True, True, False])
        self.assertEqual([page.book == book for page in ledger.pages(7)], [True, True, True])

    def test_without_rights_and_without_entries(self):
        book = Book(one_weir(), {})
        ledger = Ledger(book, Gauges(Tanks.none(book.rights), SpringRead(0, 0, 0, "w", 4)), days=1)
        page = ledger.page(0)
        self.assertEqual(values(page), [0, book, (), {}, {}, Springs(book.river, {"w": 4}, {}),
                                        Day(book.rights, {}, {"w": 4}), Sharing(book.rights, {}), {}])
        book, tanks = two()
        self.assertEqual([told(page) for page in Ledger(book, Gauges(tanks)).pages()],
                         [({"a": 0}, {"a": 0}, {"b": 0, "a": 0}, 0, {"b": 0, "a": 0}, {"a": 0})] * 12)

    def test_rooms_bound_the_calls(self):
        rights = Rights(River([("w", "sea")]), [("a", "w", "sea")])
        book = Book.alike(rights, "a")
        ledger = Ledger(book, Gauges(Tanks(rights, {"a": 10 ** 20})), days=4)
        for day in range(4):
            ledger.tell(SpringRead(day, day, 0, "w", 10 ** 28), CallTold(day, 0, 0, "a", 10 ** 28))
        ledger.tell(Release(2, 2, 0, "a", 10 ** 28), Release(3, 3, 0, "a", 7))
        self.assertEqual([page.sharing["a"] for page in ledger.pages()], [10 ** 20, 0, 10 ** 28, 7])
        self.assertEqual([page.after["a"] for page in ledger.pages()], [10 ** 20] * 4)

    def test_accounts_below_0(self):
        book, tanks = two()
        ledger = Ledger(book, Gauges(tanks, Release(0, 0, 0, "a", 9), CallTold(1, 0, 0, "a", 99),
                                     SpringRead(1, 1, 0, "w", 99)), days=3)
        self.assertEqual([page.after for page in ledger.pages()], [{"a": -9}, {"a": 5}, {"a": 5}])
        self.assertEqual(ledger.page(1).today.call("a"), 14)
        self.assertEqual(ledger.page(0).today.water("w"), 9)

    def test_void_pledges(self):
        rights = Rights(River([("w", "sea")]), [(name, "w", "w") for name in "abcd"])
        book = Book.alike(rights, "abcd")
        rows = [Pledge(0, 0, 0, "a", "c"), Pledge(0, 0, 1, "a", "a"), Pledge(0, 0, 1, "b", "c", "w"),
                Pledge(0, 0, 2, "a", "c"), Pledge(0, 0, 3, "c", "a"), Pledge(1, 0, 0, "d", "c"),
                Pledge(2, 1, 0, "a", "b")]
        ledger = Ledger(book, Gauges(Tanks.none(rights), *rows[::-1]), days=3)
        bent = book.bent(Promise("b", "c", "w"), Promise("a", "c"))
        self.assertEqual(ledger.book_on(0), (bent, (rows[0], rows[1], rows[4])))
        bent = bent.bent(Promise("d", "c"))
        self.assertEqual(ledger.book_on(1), (bent, (rows[0], rows[1], rows[4])))
        self.assertEqual(ledger.book_on(known=0, day=2), (bent, (rows[0], rows[1], rows[4])))
        self.assertEqual(ledger.book_on(2), (bent.bent(Promise("a", "b")), (rows[0], rows[1], rows[4])))
        self.assertEqual((ledger.page(2).book, ledger.page(2).void), ledger.book_on(2))
        self.assertEqual(bent.ranked("w"), ("c", "a", "b", "d"))

    def test_pledges_that_do_not_meet(self):
        book = Book.alike(fork_rights(), ["p", "q", "r", "s", "sea"])
        rows = [Pledge(0, 0, 0, "p", "q", "a"), Pledge(0, 0, 0, "p", "r"), Pledge(0, 0, 0, "q", "s", "b")]
        ledger = Ledger(book, Gauges(Tanks.none(book.rights), *rows), days=1)
        self.assertEqual(ledger.book_on(0), (book, tuple(rows)))

    def test_a_book_of_the_kind_some(self):
        book = unlike()
        tanks = Tanks(book.rights, {"a": 10 ** 20, "b": 10 ** 20})
        rows = [SpringRead(0, 0, 0, "up", 2), CallTold(0, 0, 0, "a", 2), CallTold(0, 0, 0, "b", 2),
                SpringRead(1, 1, 0, "up", 2), CallTold(1, 0, 0, "a", 2), CallTold(1, 0, 0, "b", 2),
                Pledge(1, 0, 0, "a", "b", "up")]
        ledger = Ledger(book, Gauges(tanks, *rows), days=2)
        pages = ledger.pages()
        self.assertEqual(pages[0].sharing, walked(book, pages[0].today))
        self.assertEqual((judge(pages[1].book).kind, pages[1].sharing.cubes()), (Kind.ONE, {"a": 0, "b": 2}))

    def test_bars(self):
        book, tanks = two()
        page = Ledger(book, Gauges(tanks, *year()), days=3).page(0)
        self.assertEqual((page.bar("a"), page.bar(name="b")), (("call", "a"), ("weir", "w")))
        for value in ODD_VALUES + ["w"]:
            if value != "a":
                self.fails(NoRight(value), page.bar, value)

    def test_equality(self):
        book, tanks = two()
        ledger = Ledger(book, Gauges(tanks, *year()), days=3)
        page = ledger.page(1)
        self.assertEqual(page, Ledger(book, Gauges(tanks, *year()), days=2 + 1).page(1))
        others = [copy.copy(page) for _ in ATTRIBUTES]
        for other, name in zip(others, ATTRIBUTES):
            setattr(other, name, None)
        self.equals_nothing_else(page, ledger.page(0), ledger.page(2), tuple(values(page)), *others)

    def test_wrong_days_and_knowns(self):
        book, tanks = two()
        ledger = Ledger(book, Gauges(tanks, *year()), days=3)
        for value in [None, True, False, -1, 3, 11, 10 ** 39, "0", [], (0,)]:
            for call in (ledger.page, ledger.book_on):
                self.fails(NotLedger(-1, "day"), call, value)
                self.fails(NotLedger(-1, "day"), call, value, "x")
        for value in [True, False, -1, 100, 10 ** 39, "0", [], (0,)]:
            self.fails(NotLedger(-1, "known"), ledger.page, 2, value)
            self.fails(NotLedger(-1, "known"), ledger.book_on, 2, value)
            self.fails(NotLedger(-1, "known"), ledger.pages, value)
        self.assertEqual(ledger.page(known=99, day=2), ledger.page(2))

    def test_results_are_new(self):
        book, tanks = two()
        ledger = Ledger(book, Gauges(tanks, *year()), days=3)
        pages = ledger.pages()
        ledger.pages().clear()
        ledger.page(0).after.clear()
        ledger.page(1).before.clear()
        self.assertEqual(ledger.pages(), pages)


class ReckoningTest(Case):

    def test_by_the_words(self):
        kinds = set()
        void = 0
        for dice, book, tanks, entries, days in drawn(120):
            ledger = Ledger(book, Gauges(tanks, *entries), days=days)
            for known in [None, 0, 2, 4, 99]:
                wanted = plain_pages(book, tanks, entries, days, known)
                found = ledger.pages(known)
                self.assertEqual([values(page) for page in found], wanted)
                day = dice.randrange(days)
                self.assertEqual(ledger.page(day, known), found[day])
                self.assertEqual(ledger.book_on(day, known), (found[day].book, found[day].void))
                for page in found:
                    kinds.add(judge(page.book).kind)
                    void += len(page.void)
                    self.assertTrue(is_settled(page.book, page.today, page.sharing) and fits(page.today, page.sharing))
                    self.assertTrue(all(page.after[name] <= tanks.room(name) for name in tanks.names))
                    for row in (page.before, page.released, page.after):
                        self.assertEqual(tuple(row), tanks.names)
                    for name in book.rights:
                        self.assertEqual(page.bar(name), bar(page.book, page.today, page.sharing, name))
        self.assertEqual(kinds, {Kind.ONE, Kind.SOME})
        self.assertGreater(void, 50)

    def test_told_in_any_order_twice_and_in_lots(self):
        for dice, book, tanks, entries, days in drawn(30):
            one = Ledger(book, Gauges(tanks, *entries), days=days)
            mixed = dice.sample(entries, len(entries)) + dice.sample(entries, len(entries) // 2)
            other = Ledger(book, Gauges(tanks, *mixed[:5]), days=days)
            while mixed:
                size = dice.randint(1, 6)
                other.tell(*mixed[:size])
                mixed = mixed[size:]
            self.assertEqual(one.gauges(), other.gauges())
            for known in [None, 1, 3]:
                self.assertEqual(one.pages(known), other.pages(known))

    def test_only_what_is_known_counts(self):
        for dice, book, tanks, entries, days in drawn(30):
            known = dice.randint(0, 5)
            one = Ledger(book, Gauges(tanks, *entries), days=days)
            other = Ledger(book, Gauges(tanks, *known_ones(entries, known)), days=days)
            self.assertEqual(one.pages(known), other.pages())


if __name__ == "__main__":
    unittest.main()
