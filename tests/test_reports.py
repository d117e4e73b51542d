"""reports.py: the reports of section 10."""

import unittest

from tests.samples import Case, ODD_VALUES, one_weir
from tests.test_ledger import drawn, two, year
from weirkeepers.books import Book
from weirkeepers.entries import CallTold, Pledge, Release, SpringRead
from weirkeepers.errors import NoRight, NotLedger
from weirkeepers.gauges import Gauges
from weirkeepers.ledger import Ledger
from weirkeepers.reports import owing, restated, revision, statement, totals
from weirkeepers.tanks import Tanks

NO_DAYS = [None, True, False, -1, 3, 10 ** 39, "0", [], (0,)]
NO_KNOWNS = [True, False, -1, 100, 10 ** 39, "0", [], (0,)]


def ledger(*more):
    """A ledger of the year by hand, with more entries."""
    book, tanks = two()
    return Ledger(book, Gauges(tanks, *year(), *more), days=3)


class StatementTest(Case):

    def test_by_hand(self):
        self.assertEqual(statement(ledger(), "a"), [(0, 5, 5, 0, 5), (1, 3, 3, 3, 5), (2, 2, 2, 8, -1)])
        self.assertEqual(statement(name="b", ledger=ledger()),
                         [(0, 9, 3, 0, None), (1, 1, 1, 0, None), (2, 4, 4, 0, None)])
        self.assertEqual(statement(ledger(), "a", known=1), [(0, 5, 5, 0, 5), (1, 3, 3, 3, 5), (2, 0, 0, 0, 5)])

    def test_errors(self):
        for value in ODD_VALUES + ["w"]:
            if value != "a":
                self.fails(NoRight(value), statement, ledger(), value, "x")
        for value in NO_KNOWNS:
            self.fails(NotLedger(-1, "known"), statement, ledger(), "a", value)
            self.fails(NotLedger(-1, "known"), totals, ledger(), value)
            self.fails(NotLedger(-1, "known"), owing, ledger(), value)

    def test_against_the_pages(self):
        for dice, book, tanks, entries, days in drawn(60):
            held = Ledger(book, Gauges(tanks, *entries), days=days)
            for known in [None, 1, 3]:
                pages = held.pages(known)
                for name in book.rights:
                    rows = []
                    for day, page in enumerate(pages):
                        tank = (page.released[name], page.after[name]) if name in tanks else (0, None)
                        rows.append((day, page.today.call(name), page.sharing[name]) + tank)
                    self.assertEqual(statement(held, name, known), rows)
                sums = {name: (sum(page.sharing[name] for page in pages),
                               sum(page.released[name] for page in pages) if name in tanks else 0)
                        for name in book.rights}
                self.assertEqual(totals(held, known), sums)
                self.assertEqual(list(totals(held, known)), list(book.rights.names))


class TotalsTest(Case):

    def test_by_hand(self):
        self.assertEqual(totals(ledger()), {"b": (8, 0), "a": (10, 11)})
        self.assertEqual(list(totals(ledger(), 1)), ["b", "a"])
        self.assertEqual(totals(known=1, ledger=ledger()), {"b": (4, 0), "a": (8, 3)})
        self.assertEqual(totals(Ledger(Book(one_weir(), {}), Gauges(Tanks.none(one_weir())))), {})


class OwingTest(Case):

    def test_since_when(self):
        book, _ = two()
        tanks = Tanks(book.rights, {"a": 9, "b": 9})
        rows = {"a": [(0, 3), (2, 1)], "b": [(1, 2)]}
        entries = [Release(day, day, 0, name, cubes) for name in rows for day, cubes in rows[name]]
        held = Ledger(book, Gauges(tanks, *entries), days=4)
        self.assertEqual(owing(held), [("b", 1, 2), ("a", 0, 4)])
        self.assertEqual(owing(held, known=0), [("a", 0, 3)])
        self.assertEqual(owing(known=1, ledger=held), [("b", 1, 2), ("a", 0, 3)])
        held.tell(SpringRead(1, 1, 0, "w", 3), CallTold(1, 1, 0, "a", 3))
        self.assertEqual(owing(held), [("b", 1, 2), ("a", 2, 1)])
        held.tell(SpringRead(3, 3, 0, "w", 9), CallTold(3, 3, 0, "a", 1), CallTold(3, 3, 0, "b", 1))
        self.assertEqual(owing(held), [("b", 1, 1)])
        self.assertEqual((owing(ledger()), owing(ledger(), 1)), ([("a", 2, 1)], []))

    def test_against_the_pages(self):
        found = set()
        for dice, book, tanks, entries, days in drawn(60, 30):
            held = Ledger(book, Gauges(tanks, *entries), days=days)
            for known in [None, 2]:
                pages = held.pages(known)
                rows = []
                for name in tanks.names:
                    accounts = [page.after[name] for page in pages]
                    starts = [day for day in range(days) if all(account < 0 for account in accounts[day:])]
                    if starts:
                        rows.append((name, starts[0], -accounts[-1]))
                        found.add(starts[0])
                self.assertEqual(owing(held, known), rows)
        self.assertGreater(len(found), 2)


class RevisionTest(Case):

    def test_by_hand(self):
        more = [CallTold(0, 5, 0, "a", 1), Pledge(1, 6, 0, "a", "b")]
        held = ledger(*more)
        self.assertEqual(revision(held, 0, 4, 5), [("b", 3, 7), ("a", 5, 1)])
        self.assertEqual(revision(new=4, old=None, day=0, ledger=held), [("b", 7, 3), ("a", 1, 5)])
        self.assertEqual((revision(held, 0, 5, None), revision(held, 0, 3, 3)), ([], []))
        self.assertEqual(revision(held, 1, 5, 6), [("b", 0, 1), ("a", 5, 4)])

    def test_errors_in_their_order(self):
        for value in NO_DAYS:
            self.fails(NotLedger(-1, "day"), revision, ledger(), value, "x", "y")
            self.fails(NotLedger(-1, "day"), restated, ledger(), value)
        for value in NO_KNOWNS:
            self.fails(NotLedger(-1, "known"), revision, ledger(), 0, value, 0)
            self.fails(NotLedger(-1, "known"), revision, ledger(), 0, None, value)
        empty = Ledger(ledger().book, Gauges(ledger().tanks), days=3)
        self.fails(NotLedger(-1, "day"), restated, empty, 3)

    def test_against_the_pages(self):
        changed = 0
        for dice, book, tanks, entries, days in drawn(60):
            held = Ledger(book, Gauges(tanks, *entries), days=days)
            for _ in range(5):
                old, new = dice.choice([None, 0, 1, 2, 3, 4]), dice.choice([None, 0, 1, 2, 3, 4])
                day = dice.randrange(days)
                before, after = held.page(day, old).sharing, held.page(day, new).sharing
                wanted = [(name, before[name], after[name]) for name in book.rights if before[name] != after[name]]
                self.assertEqual(revision(held, day, old, new), wanted)
                changed += len(wanted) > 0
        self.assertGreater(changed, 20)


class RestatedTest(Case):

    def test_by_hand(self):
        held = ledger(CallTold(0, 5, 0, "a", 5), CallTold(0, 6, 0, "a", 9), CallTold(0, 7, 0, "a", 1),
                      Pledge(2, 9, 0, "b", "a"))
        self.assertEqual(held.gauges().knowns(), (0, 1, 2, 5, 6, 7, 9))
        self.assertEqual([restated(held, day) for day in range(3)], [(0, 7), (0, 1, 7), (0, 2, 7, 9)])
        self.assertEqual(restated(day=2, ledger=Ledger(held.book, Gauges(held.tanks), days=3)), ())
        book, tanks = two()
        held = Ledger(book, Gauges(tanks, CallTold(1, 4, 0, "a", 0), CallTold(1, 6, 0, "a", 3)), days=2)
        self.assertEqual((restated(held, 0), restated(held, 1)), ((), (6,)))

    def test_against_the_pages(self):
        found = 0
        for dice, book, tanks, entries, days in drawn(40):
            held = Ledger(book, Gauges(tanks, *entries), days=days)
            blank = Ledger(book, Gauges(tanks), days=days)
            for day in range(days):
                knowns = held.gauges().knowns()
                pages = [blank.page(day)] + [held.page(day, known) for known in knowns]
                wanted = tuple(known for known, old, new in zip(knowns, pages, pages[1:]) if old != new)
                self.assertEqual(restated(held, day), wanted)
                found += len(wanted)
        self.assertGreater(found, 50)

    def test_results_are_new(self):
        held = ledger()
        for call in (lambda: statement(held, "a"), lambda: totals(held), lambda: owing(held),
                     lambda: revision(held, 0, None, 0)):
            wanted = call()
            call().clear()
            self.assertEqual(call(), wanted)
        self.assertEqual(held.pages(), ledger().pages())


if __name__ == "__main__":
    unittest.main()
