"""touched.py: point 10.6."""

import itertools
import random
import unittest

from tests.samples import Case, ODD_VALUES, first_books, fork_rights, one_weir, some_tanks, wrong_kinds
from weirkeepers.books import Book
from weirkeepers.entries import CallTold, Entry, FishOrder, Release, SpringRead
from weirkeepers.errors import NoRight, NotEntry, NotFirstKind, NotLedger, NoWeir
from weirkeepers.gauges import Gauges
from weirkeepers.ledger import Ledger
from weirkeepers.meetings import meet
from weirkeepers.rights import Rights
from weirkeepers.rivers import River
from weirkeepers.tanks import Tanks
from weirkeepers.touched import Paper, Touch, chain, moved_at_once, reach, touch_paper, touched

WRONG_TANKS = NotLedger(-1, "tanks")


def ladder():
    """A book over a long river with a chain e, d, c, b, a, each of which meets its neighbours alone; f meets a."""
    river = River([("v", "w"), ("w", "x"), ("u", "v"), ("x", "y"), ("y", "sea"), ("z", "y")])
    rights = Rights(river, [("f", "z", "sea"), ("a", "y", "sea"), ("b", "x", "y"), ("c", "w", "x"), ("d", "v", "w"),
                            ("e", "u", "v")])
    return Book.alike(rights, "edcbaf")


def subjects(tanks):
    """Each kind with each name that an entry may have."""
    rows = [(kind, weir) for kind in ("spring", "fish") for weir in tanks.rights.river]
    return rows + [("call", name) for name in tanks.rights] + [("release", name) for name in tanks.names]


def plain_chains(book):
    """All chains of a small book, by trying all rows of rights."""
    rights = book.rights
    ahead = {(one, other) for one, other in itertools.permutations(rights.names, 2)
             if meet(rights, one, other) and book.goes_ahead(meet(rights, one, other)[0], one, other)}
    return [row for size in range(1, len(rights) + 1) for row in itertools.permutations(rights.names, size)
            if all(pair in ahead for pair in zip(row, row[1:]))]


def plain_moved(tanks, kind, name):
    """The rights that are moved at once, by the words of the point."""
    rights = tanks.rights
    if kind == "call":
        return (name,)
    weirs = {"fish": lambda: (name,), "spring": lambda: rights.river.course(name),
             "release": lambda: rights.river.course(rights.intake(name))}[kind]()
    return tuple(other for other in rights if set(weirs) & set(rights.way(other)))


def entry_for(dice, subject, day):
    """An entry of this kind and name with a small amount."""
    kind = {"spring": SpringRead, "fish": FishOrder, "call": CallTold, "release": Release}[subject[0]]
    return kind(day, day, 0, subject[1], dice.randint(0, 3))


class ReachTest(Case):

    def test_a_ladder(self):
        book = ladder()
        self.assertEqual(reach(book, ["c"]), ("f", "a", "b", "c"))
        self.assertEqual(reach(names=("f", "d"), book=book), ("f", "a", "b", "c", "d"))
        self.assertEqual((reach(book, []), reach(book, ["f", "f"])), ((), ("f",)))
        self.assertEqual(chain(book, ["e"], "b"), ("e", "d", "c", "b"))
        self.assertEqual(chain(book, ("e", "c", "e"), "f"), ("c", "b", "f"))
        self.assertEqual(chain(other="c", names=["e", "c"], book=book), ("c",))
        self.assertIsNone(chain(book, ["a", "b"], "c"))
        self.assertIsNone(chain(book, [], "c"))

    def test_the_first_of_the_shortest_chains(self):
        rights = Rights(River([("t", "u"), ("u", "v"), ("v", "sea")]), [
            ("d", "u", "u"), ("e", "t", "v"), ("c", "t", "u"), ("b", "u", "v"), ("a", "v", "sea"), ("f", "t", "t")])
        book = Book.alike(rights, "fcedba")
        self.assertEqual(chain(book, ["f"], "a"), ("f", "e", "a"))
        self.assertEqual(chain(book, ["c", "d"], "a"), ("d", "b", "a"))
        self.assertEqual(chain(book, ["d"], "a"), ("d", "b", "a"))

    def test_errors_in_their_order(self):
        for book, kind in wrong_kinds():
            self.fails(NotFirstKind(kind), reach, book, ["zz"])
            self.fails(NotFirstKind(kind), chain, book, ["zz"], [])
        for value in ODD_VALUES + ["u"]:
            if value != "a":
                self.fails(NoRight(value), reach, ladder(), ["a", value, "zz"])
                self.fails(NoRight(value), chain, ladder(), ("a", value), [])
                self.fails(NoRight(value), chain, ladder(), ["a"], value)

    def test_against_all_chains(self):
        longest = 0
        for dice, book, _ in first_books(200, 8, 6):
            rows = plain_chains(book)
            names = book.rights.names
            for _ in range(3):
                chosen = [dice.choice(names) for _ in range(dice.randint(0, 3))] if names else []
                passed = list(chosen)
                found = [row for row in rows if row[0] in chosen]
                ends = {row[-1] for row in found}
                self.assertEqual(reach(book, chosen), tuple(name for name in names if name in ends))
                for name in names:
                    ways = [(len(row), [names.index(part) for part in row], row) for row in found if row[-1] == name]
                    wanted = min(ways)[2] if ways else None
                    self.assertEqual(chain(book, chosen, name), wanted)
                    longest = max(longest, len(wanted or ()))
                self.assertEqual(chosen, passed)
        self.assertGreater(longest, 2)


class MovedTest(Case):

    def test_each_kind(self):
        rights = fork_rights()
        tanks = Tanks(rights, {"q": 3})
        self.assertEqual([moved_at_once(tanks, "spring", weir) for weir in "abcd"], [
            ("q", "s"), ("q", "r", "s"), ("p", "q", "s"), ("p", "q", "s", "sea")])
        self.assertEqual([moved_at_once(tanks, "fish", weir) for weir in "abcd"], [
            ("q", "s"), ("r", "s"), ("p", "q"), ("p", "sea")])
        self.assertEqual([moved_at_once(tanks, "call", name) for name in rights], [(name,) for name in rights])
        self.assertEqual(moved_at_once(name="q", kind="release", tanks=tanks), ("p", "q", "s"))

    def test_errors(self):
        tanks = Tanks(fork_rights(), {"q": 3})
        book = Book.alike(fork_rights(), ["p", "q", "r", "s", "sea"])
        calls = [lambda *rest: moved_at_once(tanks, *rest), lambda *rest: touched(book, tanks, *rest),
                 lambda *rest: touch_paper(book, tanks, *rest, []),
                 lambda *rest: touch_paper(book, tanks, *rest, "zz", later=True)]
        for call in calls:
            for value in ODD_VALUES + ["pledge", ("call",)]:
                self.fails(NotEntry("kind"), call, value, None)
            for value in ODD_VALUES + ["p", "sea"]:
                if value != "a":
                    self.fails(NoWeir(value), call, "spring", value)
                    self.fails(NoWeir(value), call, "fish", value)
            for value in ODD_VALUES:
                self.fails(NoRight(value), call, "call", value)
                self.fails(NoRight(value), call, "release", value)
            self.fails(NotLedger(-1, "tank"), call, "release", "p")

    def test_by_the_words(self):
        for dice, book, _ in first_books(60, 5, 5):
            tanks = some_tanks(dice, book.rights)
            for kind, name in subjects(tanks):
                self.assertEqual(moved_at_once(tanks, kind, name), plain_moved(tanks, kind, name))


class TouchedTest(Case):

    def test_with_and_without_tanks(self):
        book = ladder()
        tanks = Tanks.none(book.rights)
        self.assertEqual(touched(book, tanks, "call", "c"), Touch(("f", "a", "b", "c"), ()))
        self.assertEqual(touched(name="z", kind="spring", tanks=tanks, book=book), Touch(("f", "a", "b"), ()))
        everyone = ("f", "a", "b", "c", "d", "e")
        self.assertEqual(touched(book, tanks, "fish", "v"), Touch(everyone, everyone))
        tanks = Tanks(book.rights, {"a": 5})
        self.assertEqual(touched(book, tanks, "call", "c"), Touch(("f", "a", "b", "c"), ("f", "a")))
        self.assertEqual(touched(book, tanks, "release", "a"), Touch(("f", "a", "b"), ("f", "a")))
        self.assertEqual(touched(book, Tanks(book.rights, {"f": 5}), "call", "b"), Touch(("f", "a", "b"), ("f",)))
        found = touched(book, tanks, "call", "f")
        self.assertEqual((found.today, found.later), (("f",), ()))
        self.assertIsInstance(found, Touch)

    def test_errors_in_their_order(self):
        for book, kind in wrong_kinds():
            tanks = Tanks.none(one_weir("a"))
            self.fails(NotFirstKind(kind), touched, book, tanks, "zz", "zz")
            self.fails(NotFirstKind(kind), touch_paper, book, tanks, "zz", "zz", "zz")
        for tanks in [Tanks.none(one_weir("a")), Tanks.none(fork_rights())]:
            self.fails(WRONG_TANKS, touched, ladder(), tanks, "zz", "zz")
            self.fails(WRONG_TANKS, touch_paper, ladder(), tanks, "zz", "zz", "zz")
        for value in ODD_VALUES + ["u"]:
            if value != "a":
                for later in (False, True):
                    self.fails(NoRight(value), touch_paper, ladder(), Tanks.none(ladder().rights), "call", "c", value,
                               later=later)

    def test_equality(self):
        touch = Touch(("a",), ("b",))
        self.assertEqual(touch, Touch(("a",), ("b",)))
        self.equals_nothing_else(touch, Touch(("a",), ()), Touch((), ("b",)), (("a",), ("b",)))

    def test_by_the_words(self):
        for dice, book, _ in first_books(80, 5, 5):
            tanks = some_tanks(dice, book.rights)
            rows = plain_chains(book)
            for kind, name in subjects(tanks):
                today = {row[-1] for row in rows if row[0] in plain_moved(tanks, kind, name)}
                later = today if kind == "fish" else {row[-1] for row in rows if row[0] in today and row[0] in tanks}
                found = touched(book, tanks, kind, name)
                self.assertEqual(found.today, tuple(right for right in book.rights if right in today))
                self.assertEqual(found.later, tuple(right for right in book.rights if right in later))


class PaperTest(Case):

    def check_paper(self, book, tanks, subject, other, later):
        """The paper is as the interface says; returns it."""
        kind, name = subject
        touch = touched(book, tanks, kind, name)
        paper = touch_paper(book, tanks, kind, name, other, later=later)
        self.assertEqual(paper is not None, other in (touch.later if later else touch.today))
        if paper is None:
            return None
        self.assertIsInstance(paper, Paper)
        self.assertIsInstance(paper.entries, list)
        self.assertEqual(paper.day, 1 if later else 0)
        for entry in (paper.entry, paper.correction):
            self.assertEqual((entry.KIND, entry.name, entry.day), (kind, name, 0))
        self.assertEqual((paper.entry.known, paper.correction.known), (0, 2))
        for entry in paper.entries:
            self.assertTrue(isinstance(entry, Entry) and entry.KIND != "pledge")
            self.assertTrue(entry.day in (0, 1) and entry.known == entry.day)
            self.assertFalse((entry.KIND, entry.name, entry.day) == (kind, name, 0))
        ledger = Ledger(book, Gauges(tanks, *paper.entries, paper.entry), days=2)
        ledger.tell(paper.correction)
        self.assertNotEqual(ledger.page(paper.day, 1).sharing[other], ledger.page(paper.day, 2).sharing[other])
        return paper

    def test_drawn_books(self):
        found = {}
        for dice, book, _ in first_books(130, 5, 6):
            tanks = some_tanks(dice, book.rights)
            for subject in subjects(tanks):
                for other in book.rights:
                    for later in (False, True):
                        paper = self.check_paper(book, tanks, subject, other, later)
                        key = (subject[0], later, paper is None)
                        found[key] = found.get(key, 0) + 1
        self.assertEqual(len(found), 16, found)

    def test_a_long_chain(self):
        book = ladder()
        tanks = Tanks(book.rights, {"a": 1, "f": 10 ** 20})
        for later in (False, True):
            self.assertIsNotNone(self.check_paper(book, tanks, ("call", "e"), "f", later))
            self.assertIsNotNone(self.check_paper(book, tanks, ("release", "a"), "a", later))
            self.assertIsNotNone(self.check_paper(book, tanks, ("spring", "u"), "f", later))
            self.assertIsNone(self.check_paper(book, tanks, ("call", "f"), "a", later))

    def test_results_are_new(self):
        book = ladder()
        tanks = Tanks.none(book.rights)
        paper = touch_paper(other="b", name="c", kind="call", tanks=tanks, book=book)
        size = len(paper.entries)
        paper.entries.clear()
        self.assertEqual(len(touch_paper(book, tanks, "call", "c", "b").entries), size)


class EveryYearTest(Case):

    def changed(self, book, tanks, entries, one, other):
        """The rights whose cubes differ on day 0, and those whose cubes differ on day 1."""
        pages = [Ledger(book, Gauges(tanks, *entries, entry), days=2).pages() for entry in (one, other)]
        return [{name for name in book.rights if pages[0][day].sharing[name] != pages[1][day].sharing[name]}
                for day in (0, 1)]

    def test_no_other_right_is_ever_changed(self):
        dice = random.Random(60)
        seen = 0
        for _, book, _ in first_books(120, 4, 4):
            tanks = some_tanks(dice, book.rights)
            if not len(book.rights):
                continue
            for _ in range(6):
                kind, name = dice.choice(subjects(tanks))
                entries = [entry_for(dice, subject, day) for subject in subjects(tanks) for day in (0, 1)
                           if dice.random() < 0.8 and (subject, day) != ((kind, name), 0)]
                one, other = entry_for(dice, (kind, name), 0), entry_for(dice, (kind, name), 0)
                today, later = self.changed(book, tanks, entries, one, other)
                touch = touched(book, tanks, kind, name)
                self.assertTrue(today <= set(touch.today), (kind, name))
                self.assertTrue(later <= set(touch.later), (kind, name))
                seen += len(today) + len(later)
        self.assertGreater(seen, 100)


if __name__ == "__main__":
    unittest.main()
