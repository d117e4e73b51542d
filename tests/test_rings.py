"""rings.py: point 4.6."""

import itertools
import random
import unittest

from tests.samples import Case, ODD_VALUES, around, fork, long_river, many_books, name_of, one_weir, unlike
from weirkeepers.books import Book
from weirkeepers.meetings import meet
from weirkeepers.promises import Promise
from weirkeepers.rights import Rights
from weirkeepers.rings import first_ring, is_quarrel, is_ring, quarrels, rings
from weirkeepers.rivers import River


def plain_rings(book):
    """All rings by the words of the point."""
    found = []
    for weir in book.river:
        for three in itertools.combinations(book.rights.passing(weir), 3):
            for a, b, c in itertools.permutations(three):
                ahead = [book.goes_ahead(weir, a, b), book.goes_ahead(weir, b, c), book.goes_ahead(weir, c, a)]
                if a == three[0] and all(ahead):
                    found.append((weir, a, b, c))
    return found


def plain_quarrels(book):
    """All quarrels by the words of the point."""
    found = []
    for a, b in itertools.combinations(book.rights.names, 2):
        for high, low in itertools.product(meet(book.rights, a, b), repeat=2):
            if book.goes_ahead(high, a, b) and book.goes_ahead(low, b, a):
                found.append((a, b, high, low))
                break
    return found


class RingTest(Case):

    def test_three_that_go_round(self):
        self.assertEqual(rings(around()), [("w", "a", "b", "c")])
        rights = one_weir("c", "b", "a")
        book = Book.alike(rights, ["a", "b", "c"], [Promise("a", "c")])
        self.assertEqual(rings(book), [("w", "c", "a", "b")])
        book = Book.alike(rights, ["c", "b", "a"], [Promise("c", "a")])
        self.assertEqual(rings(book), [("w", "c", "b", "a")])

    def test_their_order(self):
        rights = Rights(River([("low", "sea"), ("up", "low")]), [(name, "up", "sea") for name in "dcba"])
        book = Book.alike(rights, ["a", "b", "c", "d"], [Promise("a", "d"), Promise("b", "d", "up")])
        self.assertEqual(rings(book), [("low", "d", "a", "c"), ("low", "d", "a", "b"),
                                       ("up", "d", "b", "c"), ("up", "d", "a", "c")])
        self.assertEqual(first_ring(book), ("low", "d", "a", "c"))

    def test_none(self):
        for book in [unlike(), Book.alike(one_weir("a", "b", "c"), "cba"), Book(one_weir(), {})]:
            self.assertEqual((rings(book), first_ring(book)), ([], None))
        turned = Book.alike(one_weir("a", "b", "c"), "cba", [Promise("c", "b"), Promise("b", "a"), Promise("c", "a")])
        self.assertEqual(rings(turned), [])

    def test_a_ring_at_one_weir_of_several(self):
        rights = Rights(fork(), [(name, "d", "sea") for name in "abc"])
        book = Book.alike(rights, "abc", [Promise("a", "c", "c")])
        self.assertEqual(rings(book), [("c", "a", "b", "c")])

    def test_is_ring_wherever_it_begins(self):
        book = around()
        for thing in [("w", "a", "b", "c"), ("w", "b", "c", "a"), ("w", "c", "a", "b")]:
            self.assertIs(is_ring(book, thing), True)
            self.assertIs(is_ring(book=book, thing=list(thing)), False)
            self.assertIs(is_ring(book, thing + ("a",)), False)
            self.assertIs(is_ring(book, thing[:3]), False)
            self.assertIs(is_ring(book, (thing,)), False)
        for thing in [("w", "c", "b", "a"), ("w", "a", "c", "b"), ("w", "a", "a", "a"), ("w", "a", "b", "a"),
                      ("x", "a", "b", "c"), ("a", "a", "b", "c"), ("sea", "a", "b", "c"), ("w", "a", "b", "d")]:
            self.assertIs(is_ring(book, thing), False)
        for value in ODD_VALUES:
            self.assertIs(is_ring(book, value), False)
            for thing in itertools.product([value, "w"], [value, "a"], [value, "b"], [value, "c"]):
                wanted = thing == ("w", "a", "b", "c")
                self.assertIs(is_ring(book, thing), wanted, thing)

    def test_is_ring_of_rights_that_pass_elsewhere(self):
        rights = Rights(fork(), [("p", "d", "sea"), ("q", "d", "sea"), ("r", "d", "c")])
        book = Book.alike(rights, "pqr", [Promise("p", "r")])
        self.assertEqual(rings(book), [("c", "p", "q", "r"), ("d", "p", "q", "r")])
        self.assertIs(is_ring(book, ("a", "p", "q", "r")), False)
        self.assertIs(is_ring(book, ("d", "r", "p", "q")), True)
        self.assertIs(is_ring(book, ("b", "r", "p", "q")), False)

    def test_by_the_words(self):
        for _, book, _ in many_books(300, 4, 7):
            wanted = plain_rings(book)
            self.assertEqual(rings(book), wanted)
            self.assertEqual(first_ring(book), wanted[0] if wanted else None)
            told = {(weir, *row) for weir, a, b, c in wanted for row in [(a, b, c), (b, c, a), (c, a, b)]}
            for weir in book.river:
                for three in itertools.permutations(book.rights.passing(weir)[:5], 3):
                    self.assertIs(is_ring(book, (weir, *three)), (weir, *three) in told)

    def test_large_books(self):
        dice = random.Random(2)
        names = [name_of(number) for number in range(40)]
        rights = Rights(long_river(), [(name, "a", "sea") for name in names])
        promises = [Promise(names[number], names[number + 2]) for number in range(0, 30, 10)]
        book = Book.alike(rights, names, promises)
        wanted = [(weir, names[at], names[at + 1], names[at + 2]) for weir in rights.river for at in (0, 10, 20)]
        self.assertEqual(rings(book), wanted)
        self.assertEqual(quarrels(book), [])
        book = Book(rights, {weir: dice.sample(names, 40) for weir in rights.river})
        self.assertEqual((rings(book), len(quarrels(book))), ([], 780))


class QuarrelTest(Case):

    def test_two_weirs_that_rank_unlike(self):
        self.assertEqual(quarrels(unlike()), [("a", "b", "up", "low")])
        rights = Rights(River([("up", "low"), ("low", "sea")]), [("b", "up", "sea"), ("a", "up", "sea")])
        book = Book(rights, {"up": ["a", "b"], "low": ["b", "a"]})
        self.assertEqual(quarrels(book), [("b", "a", "low", "up")])

    def test_the_first_weirs_upstream_first(self):
        rights = Rights(long_river(), [(name, "c", "g") for name in "pq"])
        orders = {weir: "pq" if weir in "dg" else "qp" for weir in "cdefg"}
        self.assertEqual(quarrels(Book(rights, orders)), [("p", "q", "d", "c")])
        orders = {weir: "pq" if weir in "cdf" else "qp" for weir in "cdefg"}
        self.assertEqual(quarrels(Book(rights, orders)), [("p", "q", "c", "e")])

    def test_their_order(self):
        rights = Rights(River([("low", "sea"), ("up", "low")]), [(name, "up", "sea") for name in "cab"])
        book = Book(rights, {"up": ["a", "b", "c"], "low": ["c", "b", "a"]})
        self.assertEqual(quarrels(book), [("c", "a", "low", "up"), ("c", "b", "low", "up"), ("a", "b", "up", "low")])

    def test_promises_settle_and_make_quarrels(self):
        rights = unlike().rights
        orders = {"up": ["a", "b"], "low": ["b", "a"]}
        self.assertEqual(quarrels(Book(rights, orders, [Promise("a", "b")])), [])
        self.assertEqual(quarrels(Book(rights, orders, [Promise("b", "a", "low")])), [])
        self.assertEqual(quarrels(Book.alike(rights, "ab", [Promise("a", "b", "up")])), [("a", "b", "low", "up")])
        self.assertEqual(quarrels(around()), [])
        self.assertEqual(quarrels(Book(one_weir(), {})), [])

    def test_is_quarrel(self):
        book = unlike()
        for thing in [("a", "b", "up", "low"), ("b", "a", "low", "up")]:
            self.assertIs(is_quarrel(book, thing), True)
            self.assertIs(is_quarrel(book, list(thing)), False)
            self.assertIs(is_quarrel(book, thing[:3]), False)
            self.assertIs(is_quarrel(book, thing + ("a",)), False)
        for thing in [("b", "a", "up", "low"), ("a", "b", "low", "up"), ("a", "b", "up", "up"), ("a", "a", "up", "low"),
                      ("up", "low", "a", "b"), ("a", "b", "up", "sea"), ("a", "c", "up", "low")]:
            self.assertIs(is_quarrel(book, thing), False)
        for value in ODD_VALUES:
            self.assertIs(is_quarrel(book, value), False)
            for thing in itertools.product([value, "a"], [value, "b"], [value, "up"], [value, "low"]):
                self.assertIs(is_quarrel(book, thing), thing == ("a", "b", "up", "low"), thing)

    def test_is_quarrel_at_weirs_that_are_not_the_first(self):
        rights = Rights(long_river(), [("p", "c", "g"), ("q", "c", "g"), ("r", "b", "f")])
        book = Book(rights, {weir: ["p", "q"] + ["r"] * (weir != "g") if weir in "dg" else ["r", "q", "p"]
                             for weir in "cdefg"} | {"b": ["r"]})
        self.assertIs(is_quarrel(book, ("p", "q", "g", "f")), True)
        self.assertIs(is_quarrel(book, ("q", "p", "f", "g")), True)
        self.assertIs(is_quarrel(book, ("q", "p", "g", "f")), False)
        self.assertIs(is_quarrel(book, ("q", "r", "g", "f")), False)
        self.assertIs(is_quarrel(book, ("r", "q", "f", "g")), False)
        self.assertIs(is_quarrel(book, ("q", "r", "d", "e")), True)
        self.assertIs(is_quarrel(book, ("q", "r", "h", "e")), False)

    def test_by_the_words(self):
        for _, book, _ in many_books(301):
            self.assertEqual(quarrels(book), plain_quarrels(book))


if __name__ == "__main__":
    unittest.main()
