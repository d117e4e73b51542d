"""books.py: points 4.2 to 4.4."""

import itertools
import random
import unittest

from tests.samples import (Case, ODD_VALUES, fork, fork_rights, long_river, many_rights, one_weir, some_orders,
                           some_promises)
from weirkeepers.books import Book
from weirkeepers.errors import NoRight, NotBook, NoWeir
from weirkeepers.meetings import pairs
from weirkeepers.promises import Promise
from weirkeepers.rights import Rights
from weirkeepers.rivers import River

ORDERS = {"a": ("s", "q"), "b": ("r", "s"), "c": ("q", "p"), "d": ("sea", "p")}


class WrongBookTest(Case):

    def test_unknown_weirs_come_first_in_the_order_of_keys(self):
        for key in ["e", "sea", "", "A b", "p"]:
            self.fails(NoWeir(key), Book, fork_rights(), {"d": ("p",), key: (), "zz": ()}, [Promise("zz", "zz")])
        self.fails(NoWeir("zz"), Book, fork_rights(), ORDERS | {"zz": (), "yy": ()})

    def test_wrong_orders_in_the_order_of_weirs(self):
        wrong = [(), [], ("s",), ("s", "q", "q"), ("s", "s"), ("q", "s", "p"), ("q", "zz"), ["s", ""], ("s", "q", "s")]
        for names in wrong:
            orders = {"d": (), "a": names, "b": ("r",)}
            self.fails(NotBook("order", "a", None), Book, fork_rights(), orders, [Promise("zz", "zz")])
        self.fails(NotBook("order", "a", None), Book, fork_rights(), {})
        self.fails(NotBook("order", "c", None), Book, fork_rights(), {"d": (), "b": ("s", "r"), "a": ("q", "s")})
        self.fails(NotBook("order", "b", None), Book, one_river_unpassed(), {"b": ("p",), "a": ("p",)})

    def test_orders_of_weirs_that_nobody_passes(self):
        rights = one_river_unpassed()
        for orders in [{"a": ("p",)}, {"a": ["p"], "b": []}, {"b": (), "a": ("p",)}]:
            book = Book(rights, orders)
            self.assertEqual((book.orders(), book.ranked("b")), ({"a": ("p",)}, ()))
        self.assertEqual(Book(Rights(fork(), []), {}).orders(), {})

    def test_wrong_promises_one_by_one(self):
        rights = fork_rights()
        good = Promise("p", "q")
        self.fails(NoRight("zz"), Book, rights, ORDERS, [good, Promise("zz", "p", "e"), Promise("p", "p")])
        self.fails(NotBook("self", None, "p"), Book, rights, ORDERS, [good, Promise("p", "p"), Promise("zz", "p")])
        self.fails(NoWeir("e"), Book, rights, ORDERS, (good, Promise("p", "p", "e")))
        self.fails(NotBook("meet", "a", "p"), Book, rights, ORDERS, (good, Promise("p", "q", "a")))
        self.fails(NotBook("meet", None, "p"), Book, rights, ORDERS, [Promise("q", "p"), good, Promise("p", "r")])

    def test_both_ways_round(self):
        rights = Rights(fork(), [("p", "d", "sea"), ("q", "d", "a"), ("r", "c", "c")])
        line = ["p", "q", "r"]
        self.fails(NotBook("both", "d", "q"), Book.alike, rights, line, [Promise("p", "q"), Promise("q", "p")])
        self.fails(NotBook("both", "c", "q"), Book.alike, rights, line, [Promise("p", "q", "c"), Promise("q", "p")])
        self.fails(NotBook("both", "a", "p"), Book.alike, rights, line,
                   [Promise("q", "p", "a"), Promise("r", "p"), Promise("p", "q"), Promise("p", "r")])
        self.fails(NotBook("both", "c", "p"), Book.alike, rights, line,
                   [Promise("r", "p"), Promise("q", "p", "a"), Promise("p", "r"), Promise("p", "q")])
        book = Book.alike(rights, line, [Promise("p", "q", "c"), Promise("q", "p", "d")])
        self.assertEqual(book.promises, (("c", "p", "q"), ("d", "q", "p")))


def one_river_unpassed():
    """Rights that do not pass the weir b."""
    return Rights(River([("a", "sea"), ("b", "a")]), [("p", "a", "sea")])


class BookTest(Case):

    def test_attributes_and_orders(self):
        book = Book(fork_rights(), dict(reversed(list(ORDERS.items()))))
        self.assertEqual((book.rights, book.river, book.promises), (fork_rights(), fork(), ()))
        self.assertEqual(book.orders(), ORDERS)
        self.assertEqual(list(book.orders()), ["a", "b", "c", "d"])
        book = Book(promises=[Promise("s", "q")], orders={weir: list(ORDERS[weir]) for weir in ORDERS},
                    rights=fork_rights())
        self.assertEqual(book.orders(), ORDERS)
        self.assertEqual(book.promises, (("a", "s", "q"),))

    def test_who_goes_ahead(self):
        book = Book(fork_rights(), ORDERS, (Promise("s", "q"), Promise("s", "r", "b"), Promise("s", "q", "a")))
        self.assertIs(book.goes_ahead("a", "q", "s"), True)
        self.assertIs(book.goes_ahead("a", "s", "q"), False)
        self.assertIs(book.goes_ahead("b", "r", "s"), True)
        self.assertIs(book.goes_ahead("c", "q", "p"), True)
        self.assertIs(book.goes_ahead("c", one="q", other="q"), False)
        self.assertEqual(book.promises, (("a", "s", "q"), ("b", "s", "r")))
        self.assertEqual([book.ahead_at("a", name) for name in ("q", "s")], [(), ("q",)])
        self.assertEqual(book.ahead_at("d", "p"), ("sea",))
        self.assertEqual([book.ranked(weir) for weir in fork()], [("q", "s"), ("r", "s"), ("q", "p"), ("sea", "p")])

    def test_promises_at_some_weirs_only(self):
        rights = Rights(fork(), [("p", "d", "sea"), ("q", "d", "a")])
        book = Book.alike(rights, ["p", "q"], [Promise("p", "q", "c")])
        self.assertEqual([book.goes_ahead(weir, "p", "q") for weir in ("d", "c", "a")], [True, False, True])
        self.assertEqual(book.orders()["c"], ("p", "q"))

    def test_promises_in_their_order(self):
        rights = one_weir("z", "y", "x", "v")
        book = Book.alike(rights, ("v", "x", "y", "z"), [
            Promise("x", "v"), Promise("x", "z"), Promise("z", "v"), Promise("x", "v", "w"), Promise("z", "y")])
        self.assertEqual(book.promises, (("w", "z", "y"), ("w", "z", "v"), ("w", "x", "z"), ("w", "x", "v")))
        self.assertIsInstance(book.promises, tuple)

    def test_three_that_go_round(self):
        book = Book.alike(one_weir("p", "q", "r", "s"), ["p", "q", "r", "s"], [Promise("p", "r")])
        self.assertTrue(book.goes_ahead("w", "p", "q") and book.goes_ahead("w", "q", "r"))
        self.assertTrue(book.goes_ahead("w", "r", "p"))
        self.assertIsNone(book.ranked("w"))
        self.assertEqual(book.ahead_at("w", "s"), ("p", "q", "r"))
        self.assertEqual(book.ahead_at("w", "p"), ("r",))
        self.assertEqual(book.bent(Promise("q", "r")).ranked("w"), ("r", "p", "q", "s"))

    def test_unknown_names(self):
        book = Book(fork_rights(), ORDERS)
        for value in ODD_VALUES + ["p", "sea"]:
            self.fails(NoWeir(value), book.goes_ahead, value, "nobody", "nobody")
            self.fails(NoWeir(value), book.ahead_at, value, "nobody")
            self.fails(NoWeir(value), book.ranked, value)
            self.fails(NoWeir(value), book.moved, value, "nobody", None)
        for value in ODD_VALUES + ["a", "zz"]:
            self.fails(NoRight(value), book.goes_ahead, "a", value, "nobody")
            self.fails(NoRight(value), book.goes_ahead, "a", "p", value)
            self.fails(NoRight(value), book.ahead_at, "a", value)
            self.fails(NoRight(value), book.moved, "a", value, None)
        self.fails(NotBook("pass", "a", "p"), book.goes_ahead, "a", "p", "r")
        self.fails(NotBook("pass", "a", "r"), book.goes_ahead, "a", "q", "r")
        self.fails(NotBook("pass", "a", "p"), book.goes_ahead, "a", "p", "p")
        self.fails(NotBook("pass", "d", "q"), book.ahead_at, "d", "q")
        self.fails(NotBook("pass", "d", "q"), book.moved, "d", "q", None)

    def test_bent(self):
        book = Book(fork_rights(), ORDERS, [Promise("s", "q")])
        self.assertEqual(book.bent(), book)
        bent = book.bent(Promise("q", "p"), Promise("s", "q", "a"))
        self.assertEqual(bent, Book(fork_rights(), ORDERS, [Promise("q", "p"), Promise("s", "q")]))
        self.assertEqual(book.promises, (("a", "s", "q"),))
        self.fails(NotBook("both", "a", "q"), book.bent, Promise("p", "q"), Promise("q", "s"))
        self.fails(NotBook("meet", None, "p"), book.bent, Promise("q", "s"), Promise("p", "r"))
        self.fails(NoRight("zz"), book.bent, Promise("zz", "s"))

    def test_moved(self):
        book = Book.alike(one_weir("p", "q", "r", "s"), ["p", "q", "r", "s"], [Promise("p", "r")])
        for place, order in enumerate(["rpqs", "prqs", "pqrs", "pqsr"]):
            moved = book.moved("w", "r", place)
            self.assertEqual((moved.orders(), moved.promises), ({"w": tuple(order)}, (("w", "p", "r"),)))
        for place in ODD_VALUES + [4, "0", 10 ** 39]:
            if isinstance(place, bool) or place not in [0, 1]:
                self.fails(NotBook("place", "w", "r"), book.moved, "w", "r", place)
        self.assertEqual(book.orders(), {"w": ("p", "q", "r", "s")})
        other = Book(fork_rights(), ORDERS).moved("c", name="p", place=0)
        self.assertEqual(other.orders(), ORDERS | {"c": ("p", "q")})
        self.fails(NotBook("place", "c", "p"), Book(fork_rights(), ORDERS).moved, "c", "p", 2)

    def test_alike(self):
        line = ["sea", "s", "r", "q", "p"]
        book = Book.alike(fork_rights(), line, promises=(Promise("q", "p"),))
        self.assertEqual(book.orders(), {"a": ("s", "q"), "b": ("s", "r"), "c": ("q", "p"), "d": ("sea", "p")})
        self.assertEqual(book.promises, (("c", "q", "p"),))
        self.assertEqual(Book.alike(fork_rights(), tuple(line)), Book(fork_rights(), book.orders()))
        for wrong in [[], line[:4], line + ["p"], line[:4] + ["s"], line[:4] + ["zz"], line + [""], ("p",)]:
            self.fails(NotBook("line", None, None), Book.alike, fork_rights(), wrong, [Promise("zz", "zz")])
        self.fails(NoRight("zz"), Book.alike, fork_rights(), line, [Promise("zz", "zz")])
        self.assertEqual(Book.alike(Rights(fork(), []), ()), Book(Rights(fork(), []), {}))

    def test_equality(self):
        book = Book(fork_rights(), ORDERS, [Promise("s", "q"), Promise("r", "s")])
        self.assertTrue(book == Book(fork_rights(), ORDERS, [Promise("r", "s", "b"), Promise("s", "q"),
                                                             Promise("s", "q")]))
        turned = Rights(fork(), fork_rights().rows()[::-1])
        self.equals_nothing_else(
            book, Book(fork_rights(), ORDERS), Book(turned, ORDERS, [Promise("s", "q"), Promise("r", "s")]),
            Book(fork_rights(), ORDERS | {"c": ("p", "q")}, [Promise("s", "q"), Promise("r", "s")]),
            Book(fork_rights(), ORDERS, [Promise("q", "s"), Promise("r", "s")]), ORDERS, book.rights)
        # A promise that changes nothing is told all the same.
        self.assertFalse(Book(fork_rights(), ORDERS) == Book(fork_rights(), ORDERS, [Promise("p", "q")]))
        self.assertTrue(Book(one_river_unpassed(), {"a": ("p",)}) == Book(one_river_unpassed(), {"a": ("p",), "b": ()}))

    def test_arguments_and_answers_are_copied(self):
        orders = {weir: list(ORDERS[weir]) for weir in ORDERS}
        promises = [Promise("s", "q")]
        book = Book(fork_rights(), orders, promises)
        same = Book(fork_rights(), ORDERS, [Promise("s", "q")])
        orders["a"].reverse()
        orders["b"] = ["s", "r"]
        promises.append(Promise("q", "p"))
        book.orders()["a"] = ()
        self.assertEqual(book, same)
        self.assertEqual([book.ranked(weir) for weir in fork()], [same.ranked(weir) for weir in fork()])
        line = ["p", "q", "r", "s", "sea"]
        Book.alike(fork_rights(), line, promises)
        self.assertEqual((line, len(promises)), (["p", "q", "r", "s", "sea"], 2))

    def test_against_the_definitions(self):
        dice = random.Random(81)
        found = []
        for rights in many_rights(80, 6, 7):
            orders = some_orders(dice, rights)
            promises = some_promises(dice, rights)
            book = Book(rights, orders, promises)
            told = {row for promise in promises for row in promise.said(rights)}
            key = {name: place for place, name in enumerate(rights.names)}
            weirs = rights.river.weirs
            self.assertEqual(book.promises, tuple(sorted(told, key=lambda row: (weirs.index(row[0]), key[row[1]],
                                                                                key[row[2]]))))
            for weir in weirs:
                names = rights.passing(weir)
                ahead = set()
                for one, other in itertools.permutations(names, 2):
                    stands = orders[weir].index(one) < orders[weir].index(other)
                    if (weir, other, one) in told or (stands and (weir, one, other) not in told):
                        ahead.add((one, other))
                for one, other in itertools.product(names, names):
                    self.assertIs(book.goes_ahead(weir, one, other), (one, other) in ahead)
                for name in names:
                    self.assertEqual(book.ahead_at(weir, name), tuple(one for one in names if (one, name) in ahead))
                lines = [line for line in itertools.permutations(names)
                         if all(pair in ahead for pair in itertools.combinations(line, 2))] if len(names) < 6 else None
                if lines is not None:
                    self.assertEqual(book.ranked(weir), (lines + [None])[0])
                    found.append(bool(lines))
        self.assertTrue(found.count(False) > 3)

    def test_forty(self):
        river = long_river()
        rights = Rights(river, [(name, name, "sea") for name in river])
        book = Book.alike(rights, rights.names)
        everyone = [Promise(one, other) for one, other, _ in pairs(rights)]
        turned = book.bent(*everyone)
        self.assertEqual(book.ranked("bn"), rights.names)
        self.assertEqual(turned.ranked("bn"), rights.names[::-1])
        self.assertEqual(len(turned.promises), sum(place * (place - 1) // 2 for place in range(41)))
        self.assertEqual(turned.bent(Promise("a", "bn")), turned)


if __name__ == "__main__":
    unittest.main()
