"""moves.py: points 9.8 to 9.11."""

import random
import unittest

from tests.samples import (Case, ODD_VALUES, around, first_books, fork_rights, many_books, many_rights, one_weir,
                           some_book, some_day, some_promises, unlike, wrong_kinds)
from weirkeepers.books import Book
from weirkeepers.days import Day
from weirkeepers.dealing import first_sharing
from weirkeepers.errors import NoRight, NotBook, NotFirstKind, NotMove, NoWeir
from weirkeepers.meetings import meet, pairs
from weirkeepers.moves import (blockers, exchange_change, exchanged, exchanges, free_pairs, is_raised, open_places,
                               turned_pairs)
from weirkeepers.promises import Promise
from weirkeepers.rights import Rights
from weirkeepers.rivers import River
from weirkeepers.sharings import Sharing
from weirkeepers.twobooks import agree, differences
from weirkeepers.verdict import Kind, judge
from weirkeepers.widening import Change

NO_TWIN = NotBook("rights", None, None)


def line_of(text, *promises):
    """A book of one weir in which the rights a, b, c .. stand in this line."""
    return Book.alike(one_weir(*sorted(text)), text, promises)


def first_pairs(count, most_weirs=5, most=5):
    """A list of (dice, book, other) with two books of the first kind with equal rights."""
    dice = random.Random(count)
    rows = []
    for rights in many_rights(count, most_weirs, most):
        books = []
        while len(books) < 2:
            line = dice.sample(rights.names, len(rights))
            books.append(Book.alike(rights, line, some_promises(dice, rights, dice.randint(0, 2))))
            books = [book for book in books if judge(book).kind == Kind.ONE]
        rows.append((dice, books[0], books[1]))
    return rows


def plain_blockers(book, one, other):
    """The blockers by the words of the point."""
    def ahead(high, low):
        weirs = meet(book.rights, high, low)
        return bool(weirs) and book.goes_ahead(weirs[0], high, low)
    return tuple(name for name in book.rights if name not in (one, other)
                 and (ahead(name, one) and ahead(other, name) or ahead(name, other) and ahead(one, name)))


class ExchangedTest(Case):

    def test_orders_stay(self):
        book = unlike()
        found = exchanged(book, "a", "b")
        self.assertEqual(found, Book(book.rights, {"up": ["a", "b"], "low": ["b", "a"]},
                                     [Promise("a", "b", "up"), Promise("b", "a", "low")]))
        self.assertEqual(exchanged(other="a", one="b", book=book), found)
        self.assertEqual(exchanged(found, "a", "b"), book)

    def test_promises_of_others_stay(self):
        rights = fork_rights()
        orders = {"a": ["q", "s"], "b": ["r", "s"], "c": ["p", "q"], "d": ["p", "sea"]}
        book = Book(rights, orders, [Promise("p", "q"), Promise("s", "q"), Promise("p", "sea")])
        found = exchanged(book, "q", "p")
        self.assertEqual(found.promises, (("a", "s", "q"), ("d", "p", "sea")))
        self.assertEqual((found.orders(), found.goes_ahead("c", "p", "q")), (book.orders(), True))
        self.assertEqual(exchanged(book, "s", "q").promises, (("a", "q", "s"), ("c", "p", "q"), ("d", "p", "sea")))
        self.assertEqual(exchanged(book, "s", "r").promises, book.promises[:1] + (("b", "r", "s"),) + book.promises[1:])

    def test_errors(self):
        rights = fork_rights()
        book = Book.alike(rights, ["p", "q", "r", "s", "sea"])
        for value in ODD_VALUES + ["a"]:
            for call in (exchanged, blockers):
                self.fails(NoRight(value), call, book, value, [])
                self.fails(NoRight(value), call, book, "p", value)
            self.fails(NoRight(value), exchange_change, book, Day(rights, {}, {}), "zz" if value == "p" else "p", value)
        for one, other in [("p", "p"), ("p", "r"), ("p", "s"), ("sea", "q"), ("r", "q")]:
            for call in (exchanged, blockers):
                self.fails(NotMove(other), call, book, one, other)
            self.fails(NotMove(other), exchange_change, book, Day(rights, {}, {}), one, other)

    def test_books_of_any_kind(self):
        kinds = set()
        for dice, book, _ in many_books(200, 4, 5):
            rows = list(pairs(book.rights))
            if not rows:
                continue
            one, other, _ = dice.choice(rows)
            kinds.add(judge(book).kind)
            found = exchanged(book, one, other)
            self.assertEqual(found.orders(), book.orders())
            kept = [row for row in book.promises if {row[1], row[2]} != {one, other}]
            news = [row for row in found.promises if {row[1], row[2]} == {one, other}]
            self.assertEqual([row for row in found.promises if row not in news], kept)
            wanted = []
            for weir in meet(book.rights, one, other):
                order = book.orders()[weir]
                ahead, behind = (one, other) if book.goes_ahead(weir, one, other) else (other, one)
                self.assertTrue(found.goes_ahead(weir, behind, ahead))
                if order.index(ahead) < order.index(behind):
                    wanted.append((weir, ahead, behind))
            self.assertEqual(sorted(news), sorted(wanted))
            pair = sorted([one, other], key=book.rights.names.index)
            self.assertTrue(all(list(row[1:]) == pair for row in differences(book, found)))
            self.assertEqual(len(differences(book, found)), len(meet(book.rights, one, other)))
        self.assertEqual(kinds, {"one", "some", "none"})


class BlockersTest(Case):

    def test_those_between(self):
        book = line_of("dbac")
        self.assertEqual((blockers(book, "d", "c"), blockers(book, "c", "d")), (("a", "b"), ("a", "b")))
        self.assertEqual((blockers(book, "a", "d"), blockers(other="b", one="d", book=book)), (("b",), ()))
        self.assertEqual(free_pairs(book), [("a", "c"), ("b", "a"), ("d", "b")])
        self.assertEqual(free_pairs(Book(one_weir(), {})), [])

    def test_other_kinds_come_first(self):
        for book, kind in wrong_kinds():
            fine = Book.alike(book.rights, book.rights.names)
            self.fails(NotFirstKind(kind), blockers, book, [], None)
            self.fails(NotFirstKind(kind), free_pairs, book)
            self.fails(NotFirstKind(kind), exchange_change, book, Day(book.rights, {}, {}), [], None)
            for call in (turned_pairs, exchanges):
                self.fails(NotFirstKind(kind), call, book, book)
                self.fails(NotFirstKind(kind), call, fine, book)
                self.fails(NotFirstKind(kind), call, book, fine)
            self.fails(NotFirstKind(kind), open_places, book, [], None)

    def test_by_the_words(self):
        several = 0
        for _, book, _ in first_books(120, 5, 6):
            free = []
            for one, other, weir in pairs(book.rights):
                found = blockers(book, one, other)
                self.assertEqual(found, plain_blockers(book, one, other))
                self.assertEqual(blockers(book, other, one), found)
                several += len(found) > 0
                kind = judge(exchanged(book, one, other)).kind
                self.assertEqual(kind, Kind.NONE if found else Kind.ONE)
                if not found:
                    free.append((one, other) if book.goes_ahead(weir, one, other) else (other, one))
            names = book.rights.names
            free.sort(key=lambda row: (names.index(row[0]), names.index(row[1])))
            self.assertEqual(free_pairs(book), free)
        self.assertGreater(several, 20)

    def test_results_are_new(self):
        book = line_of("ab")
        free_pairs(book).clear()
        self.assertEqual(free_pairs(book), [("a", "b")])


class ExchangeChangeTest(Case):

    def test_one_comes_up(self):
        book = line_of("abc")
        day = Day(book.rights, {}, {"w": 3}, call=2)
        self.assertEqual(exchange_change(book, day, "a", "b"), Change(
            Sharing(book.rights, {"a": 2, "b": 1}), Sharing(book.rights, {"a": 1, "b": 2})))
        self.assertEqual(exchange_change(other="a", one="b", day=day, book=book).winners, ("b",))

    def test_errors_in_their_order(self):
        book = line_of("abc")
        day = Day(book.rights, {}, {})
        self.fails(NotFirstKind("none"), exchange_change, book, day, "a", "c")
        self.fails(NotMove("a"), exchange_change, book, day, "a", "a")
        self.fails(NoRight("zz"), exchange_change, book, day, "a", "zz")
        self.fails(NotFirstKind("some"), exchange_change, unlike(), Day(unlike().rights, {}, {}), "zz", "a")

    def test_who_comes_up_gets_no_fewer(self):
        moved = 0
        for dice, book, day in first_books(120, 5, 6):
            for down, up in free_pairs(book):
                change = exchange_change(book, day, *dice.sample([down, up], 2))
                self.assertEqual(change.before, first_sharing(book, day))
                self.assertEqual(change.after, first_sharing(exchanged(book, down, up), day))
                self.assertTrue(change.gain(up) >= 0 >= change.gain(down))
                moved += change.gain(up) > 0
        self.assertGreater(moved, 10)


class ExchangesTest(Case):

    def test_one_weir(self):
        book, other = line_of("abc"), line_of("cba")
        self.assertEqual(turned_pairs(book, other), [("a", "b"), ("a", "c"), ("b", "c")])
        self.assertEqual(exchanges(book, other), [("a", "b"), ("a", "c"), ("b", "c")])
        self.assertEqual(exchanges(other=book, book=other), [("b", "a"), ("c", "a"), ("c", "b")])
        self.assertEqual(exchanges(line_of("cab"), line_of("bac")), [("a", "b"), ("c", "b"), ("c", "a")])

    def test_books_that_agree(self):
        book = line_of("abc")
        for other in [book, line_of("acb", Promise("c", "b"))]:
            self.assertEqual((exchanges(book, other), turned_pairs(book, other)), ([], []))

    def test_unequal_rights_come_first(self):
        for book in [line_of("abc"), around(), unlike()]:
            for call in (turned_pairs, exchanges):
                self.fails(NO_TWIN, call, book, line_of("abcd"))
            self.fails(NO_TWIN, is_raised, book, line_of("abcd"), "zz")

    def test_step_by_step(self):
        longest = 0
        for _, book, other in first_pairs(120, 5, 6):
            rows = exchanges(book, other)
            names = book.rights.names
            turned = [(one, two) for one in names for two in names if one != two and meet(book.rights, one, two)
                      and book.goes_ahead(meet(book.rights, one, two)[0], one, two)
                      and not other.goes_ahead(meet(book.rights, one, two)[0], one, two)]
            self.assertEqual(turned_pairs(other=other, book=book), turned)
            self.assertEqual(len(rows), len(turned))
            longest = max(longest, len(rows))
            now = book
            for row in rows:
                still = turned_pairs(now, other)
                self.assertEqual(row, [pair for pair in free_pairs(now) if pair in still][0])
                now = exchanged(now, *row)
                self.assertEqual(judge(now).kind, Kind.ONE)
            self.assertTrue(agree(now, other))
        self.assertGreater(longest, 5)


class IsRaisedTest(Case):

    def test_one_right_alone(self):
        book = line_of("abcd")
        for text, names in [("abcd", "abcd"), ("acbd", "c"), ("cabd", "c"), ("dabc", "d"), ("bcad", ""), ("acdb", ""),
                            ("dcba", ""), ("bacd", "b")]:
            found = "".join(name for name in "abcd" if is_raised(book, line_of(text), name))
            self.assertEqual(found, names, text)
        self.assertTrue(is_raised(other=unlike(), book=unlike(), name="a"))
        raised = Book.alike(unlike().rights, "ab")
        self.assertEqual((is_raised(unlike(), raised, "a"), is_raised(unlike(), raised, "b")), (True, False))
        for value in ODD_VALUES + ["w"]:
            if value != "a":
                self.fails(NoRight(value), is_raised, book, book, value)

    def test_who_is_raised_gets_no_fewer(self):
        raised = 0
        for dice, book, other in first_pairs(80, 4, 4):
            for name in book.rights:
                wanted = all(name in row[1:] and other.goes_ahead(row[0], name, row[2 if row[1] == name else 1])
                             for row in differences(book, other))
                self.assertEqual(is_raised(book, other, name), wanted)
                for _ in range(5 if wanted else 0):
                    raised += 1
                    day = some_day(dice, book.rights, 3)
                    self.assertGreaterEqual(first_sharing(other, day)[name], first_sharing(book, day)[name])
        self.assertGreater(raised, 50)

    def test_books_of_any_kind(self):
        dice = random.Random(77)
        for rights in many_rights(80, 4, 4):
            book, other = some_book(dice, rights), some_book(dice, rights)
            for name in rights:
                wanted = all(name in row[1:] and any(other.goes_ahead(row[0], name, two) for two in row[1:])
                             for row in differences(book, other))
                self.assertEqual(is_raised(book, other, name), wanted)


class OpenPlacesTest(Case):

    def test_two_weirs(self):
        rights = Rights(River([("up", "low"), ("low", "sea")]), [("a", "up", "sea"), ("b", "up", "sea"),
                                                                 ("c", "up", "up"), ("d", "low", "low")])
        book = Book.alike(rights, "abcd")
        self.assertEqual([open_places(book, "up", name) for name in "abc"], [(0,), (1, 2), (0, 1, 2)])
        self.assertEqual(open_places(name="d", weir="low", book=book), (0, 1, 2))
        promised = Book.alike(rights, "abcd", [Promise("b", "c", "up")])
        self.assertEqual([open_places(promised, "up", name) for name in "abc"], [(0,), (1, 2), (0, 1, 2)])
        self.assertEqual(open_places(line_of("bca", Promise("a", "c")), "w", "a"), (1, 2))

    def test_errors_in_their_order(self):
        book = Book.alike(fork_rights(), ["p", "q", "r", "s", "sea"])
        for value in ODD_VALUES + ["q"]:
            if value != "a":
                self.fails(NoWeir(value), open_places, book, value, "zz")
            self.fails(NoRight(value) if value != "q" else NotBook("pass", "d", "q"), open_places, book, "d", value)
        self.fails(NotBook("pass", "c", "r"), open_places, book, "c", "r")

    def test_by_the_words(self):
        closed = 0
        for _, book, _ in first_books(100, 4, 5):
            for weir in book.river:
                for name in book.rights.passing(weir):
                    places = range(len(book.rights.passing(weir)))
                    wanted = tuple(place for place in places if judge(book.moved(weir, name, place)).kind == Kind.ONE)
                    self.assertEqual(open_places(book, weir, name), wanted)
                    closed += len(wanted) < len(places)
        self.assertGreater(closed, 20)


if __name__ == "__main__":
    unittest.main()
