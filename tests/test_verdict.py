"""verdict.py: points 4.7 and 4.8."""

import itertools
import random
import unittest

from tests.samples import (Case, ODD_VALUES, around, fork, fork_rights, long_river, many_books, name_of, one_weir,
                           unlike)
from weirkeepers.books import Book
from weirkeepers.days import Day
from weirkeepers.dealing import deal
from weirkeepers.errors import NotFirstKind
from weirkeepers.promises import Promise
from weirkeepers.rights import Rights
from weirkeepers.rings import quarrels, rings
from weirkeepers.settled import is_settled
from weirkeepers.sharings import Sharing
from weirkeepers.verdict import Kind, Verdict, is_line, is_two, judge, need_first


def settled_ones(book, day):
    """All settled sharings of a day, as tuples of cubes, by trying all that fit the calls."""
    names = book.rights.names
    tries = itertools.product(*[range(day.call(name) + 1) for name in names])
    return [cubes for cubes in tries if is_settled(book, day, Sharing(book.rights, dict(zip(names, cubes))))]


def plain_line(book):
    """The line by the words of the point."""
    left = list(book.rights.names)
    line = []
    while left:
        line.append(next(name for name in left if not any(
            other in book.ahead_at(weir, name) for weir in book.rights.way(name) for other in left)))
        left.remove(line[-1])
    return tuple(line)


def attributes(verdict):
    """All attributes but the kind."""
    return (verdict.line, verdict.quarrel, verdict.ring, verdict.day, verdict.sharings)


class JudgeTest(Case):

    def test_kinds(self):
        self.assertEqual((Kind.ONE, Kind.SOME, Kind.NONE), ("one", "some", "none"))

    def test_one(self):
        book = Book(fork_rights(), {"a": ("s", "q"), "b": ("r", "s"), "c": ("q", "p"), "d": ("sea", "p")})
        verdict = judge(book)
        self.assertIsInstance(verdict, Verdict)
        self.assertEqual(verdict.kind, Kind.ONE)
        self.assertEqual(attributes(verdict), (("r", "s", "q", "sea", "p"), None, None, None, ()))
        turned = Book.alike(fork_rights(), ["p", "q", "r", "s", "sea"], [Promise("p", "sea"), Promise("q", "s")])
        self.assertEqual(judge(turned).line, ("r", "s", "sea", "p", "q"))

    def test_some(self):
        book = unlike()
        verdict = judge(book=book)
        self.assertEqual(verdict.kind, Kind.SOME)
        day = Day(book.rights, {"a": 1, "b": 1}, {"up": 1, "low": 1})
        sharings = (Sharing(book.rights, {"a": 1}), Sharing(book.rights, {"b": 1}))
        self.assertEqual(attributes(verdict), (None, ("a", "b", "up", "low"), None, day, sharings))
        self.assertIsInstance(verdict.sharings, tuple)

    def test_none(self):
        rights = Rights(fork(), [("z", "b", "a"), ("c", "d", "sea"), ("b", "d", "c"), ("a", "d", "a")])
        book = Book.alike(rights, ["a", "b", "z", "c"], [Promise("a", "c", "d"), Promise("a", "c", "c")])
        verdict = judge(book)
        self.assertEqual(verdict.kind, Kind.NONE)
        day = Day(rights, {"a": 1, "b": 1, "c": 1}, {"a": 4, "b": 4, "c": 1, "d": 4})
        self.assertEqual(attributes(verdict), (None, None, ("c", "c", "a", "b"), day, ()))
        self.assertEqual(judge(around()).ring, ("w", "a", "b", "c"))
        self.assertEqual(judge(around()).day, Day(around().rights, {}, {"w": 1}, call=1))

    def test_a_ring_comes_before_a_quarrel(self):
        rights = Rights(unlike().river, [(name, "up", "sea") for name in "abc"])
        book = Book.alike(rights, "abc", [Promise("a", "c", "low")])
        self.assertEqual((len(rings(book)), len(quarrels(book))), (1, 1))
        self.assertEqual((judge(book).kind, judge(book).ring), (Kind.NONE, ("low", "a", "b", "c")))
        self.assertIsNone(judge(book).quarrel)

    def test_the_first_quarrel(self):
        rights = Rights(unlike().river, [(name, "up", "sea") for name in "cab"])
        book = Book(rights, {"up": ["a", "b", "c"], "low": ["c", "b", "a"]})
        verdict = judge(book)
        self.assertEqual((verdict.kind, verdict.quarrel), (Kind.SOME, ("c", "a", "low", "up")))
        self.assertEqual(verdict.day, Day(rights, {"a": 1, "c": 1}, {"up": 1, "low": 1}))
        self.assertEqual([sharing.cubes() for sharing in verdict.sharings],
                         [{"c": 1, "a": 0, "b": 0}, {"c": 0, "a": 1, "b": 0}])

    def test_without_rights(self):
        verdict = judge(Book(Rights(fork(), []), {}))
        self.assertEqual((verdict.kind, attributes(verdict)), (Kind.ONE, ((), None, None, None, ())))

    def test_equality(self):
        line = Book.alike(unlike().rights, "ab")
        verdicts = [judge(line), judge(unlike()), judge(around()), judge(Book.alike(unlike().rights, "ba")),
                    judge(Book(unlike().rights, {"up": "ba", "low": "ab"})), judge(around("v")),
                    judge(Book.alike(around().rights, "cba", [Promise("c", "a")]))]
        for place, verdict in enumerate(verdicts):
            self.equals_nothing_else(verdict, *(verdicts[:place] + verdicts[place + 1:]))
        self.assertTrue(judge(around()) == judge(around()))
        self.assertTrue(judge(line) == judge(Book.alike(line.rights, "ba", [Promise("b", "a")])))
        elsewhere = Rights(fork(), [("p", "d", "d")])
        self.assertTrue(judge(Book(one_weir("p"), {"w": "p"})) == judge(Book.alike(elsewhere, "p")))
        wide = Rights(unlike().river, [("a", "up", "sea"), ("b", "up", "sea"), ("c", "low", "low")])
        self.assertFalse(judge(unlike()) == judge(Book(wide, {"up": "ab", "low": "cba"})))

    def test_each_kind_on_its_day(self):
        kinds = {Kind.ONE: 0, Kind.SOME: 0, Kind.NONE: 0}
        for dice, book, day in many_books(300, 3, 6, 2):
            verdict = judge(book)
            kinds[verdict.kind] += 1
            found = settled_ones(book, day)
            if verdict.kind == Kind.NONE:
                self.assertEqual(verdict.ring, rings(book)[0])
                self.assertEqual(settled_ones(book, verdict.day), [])
            elif verdict.kind == Kind.SOME:
                self.assertEqual((rings(book), verdict.quarrel), ([], quarrels(book)[0]))
                told = [tuple(sharing.cubes().values()) for sharing in verdict.sharings]
                self.assertEqual(settled_ones(book, verdict.day), sorted(told))
                self.assertEqual([sharing[verdict.quarrel[0]] for sharing in verdict.sharings], [1, 0])
                self.assertTrue(is_two(book, verdict.day, *verdict.sharings))
                self.assertGreaterEqual(len(found), 1)
            else:
                self.assertEqual((rings(book), quarrels(book)), ([], []))
                self.assertEqual(verdict.line, plain_line(book))
                self.assertEqual(found, [tuple(deal(day, verdict.line).cubes().values())])
        self.assertGreater(min(kinds.values()), 20)

    def test_large_books(self):
        names = [name_of(number) for number in range(40)]
        rights = Rights(long_river(), [(name, "a", "sea") for name in names])
        line = random.Random(4).sample(names, 40)
        self.assertEqual(judge(Book.alike(rights, line)).line, tuple(line))
        self.assertEqual(judge(Book.alike(rights, line, [Promise(line[0], line[1], "bn")])).kind, Kind.SOME)
        self.assertEqual(judge(Book.alike(rights, line, [Promise(line[0], line[2])])).kind, Kind.NONE)


class LineTest(Case):

    def test_lists_and_tuples_of_all_rights(self):
        book = Book(fork_rights(), {"a": ("s", "q"), "b": ("r", "s"), "c": ("q", "p"), "d": ("sea", "p")})
        for line in [("r", "s", "q", "sea", "p"), ("sea", "r", "s", "q", "p"), ("r", "s", "sea", "q", "p")]:
            self.assertIs(is_line(book, line), True)
            self.assertIs(is_line(thing=list(line), book=book), True)
            self.assertIs(is_line(book, line[1:]), False)
            self.assertIs(is_line(book, line[:4]), False)
            self.assertIs(is_line(book, line + ("p",)), False)
            self.assertIs(is_line(book, line[:4] + ("r",)), False)
            self.assertIs(is_line(book, line[:4] + ("zz",)), False)
            for value in ODD_VALUES:
                self.assertIs(is_line(book, list(line[:4]) + [value]), False)
                self.assertIs(is_line(book, (value,) + line[1:]), False)
        for line in [("s", "r", "q", "sea", "p"), ("r", "q", "s", "sea", "p"), ("r", "s", "q", "p", "sea"), "rsqp"]:
            self.assertIs(is_line(book, line), False)

    def test_any_value(self):
        for book in [unlike(), around()]:
            for value in ODD_VALUES:
                self.assertIs(is_line(book, value), False, value)
        nobody = Book(one_weir(), {})
        for value in ODD_VALUES:
            self.assertIs(is_line(nobody, value), value == [] or value == ())

    def test_doubles_in_rows_of_the_right_length(self):
        book = Book.alike(Rights(fork(), [("p", "b", "b"), ("q", "c", "c")]), "pq")
        for line in [("p", "p"), ["q", "q"]]:
            self.assertIs(is_line(book, line), False)
        for line in [("p", "q"), ["q", "p"]]:
            self.assertIs(is_line(book, line), True)

    def test_there_is_a_line_exactly_for_the_first_kind(self):
        for _, book, _ in many_books(120, 4, 5):
            names = book.rights.names
            lines = list(itertools.permutations(names))
            wanted = [line for line in lines if all(
                book.goes_ahead(weir, a, b) for a, b in itertools.combinations(line, 2)
                for weir in book.river if book.rights.passes(a, weir) and book.rights.passes(b, weir))]
            self.assertEqual([line for line in lines if is_line(book, line)], wanted)
            self.assertEqual(bool(wanted), judge(book).kind == Kind.ONE)

    def test_need_first(self):
        book = Book.alike(unlike().rights, "ba")
        self.assertEqual(need_first(book), ("b", "a"))
        self.assertEqual(need_first(book=Book(one_weir(), {})), ())
        self.fails(NotFirstKind("some"), need_first, unlike())
        self.fails(NotFirstKind("none"), need_first, around())


class TwoTest(Case):

    def test_is_two(self):
        book = unlike()
        day = judge(book).day
        one, other = judge(book).sharings
        self.assertIs(is_two(book, day, one, other), True)
        self.assertIs(is_two(other=one, one=other, day=day, book=book), True)
        self.assertIs(is_two(book, day, one, one), False)
        none = Sharing(book.rights, {})
        both = Sharing(book.rights, {"a": 1, "b": 1})
        for wrong in [none, both]:
            self.assertIs(is_two(book, day, one, wrong), False)
            self.assertIs(is_two(book, day, wrong, one), False)
        self.assertIs(is_two(book, Day(book.rights, {}, {}), none, Sharing(book.rights, {})), False)
        wide = Day(book.rights, {"a": 2, "b": 2}, {"up": 2, "low": 2})
        self.assertIs(is_two(book, wide, both, Sharing(book.rights, {"b": 2})), True)
        self.assertIs(is_two(book, wide, both, one), False)


class AskedTwiceTest(Case):

    def test_alike(self):
        for _, book, _ in many_books(40):
            told = (judge(book), rings(book), quarrels(book))
            rings(book).append(None)
            quarrels(book).append(None)
            self.assertEqual((judge(book), rings(book), quarrels(book)), told)


if __name__ == "__main__":
    unittest.main()
