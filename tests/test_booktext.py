"""booktext.py: point 4.9."""

import random
import unittest

from tests.samples import Case, fork, fork_rights, many_books, many_rights, some_book, one_weir
from weirkeepers.books import Book
from weirkeepers.booktext import read_book, write_book
from weirkeepers.errors import NotBook, NotText, NoWeir
from weirkeepers.promises import Promise
from weirkeepers.rights import Rights
from weirkeepers.rivers import River

LINES = ["order a s q", "order b r s", "order c q p", "order d sea p", "give p q", "give s r at b"]
ORDERS = {"a": ("s", "q"), "b": ("r", "s"), "c": ("q", "p"), "d": ("sea", "p")}


def read(*lines):
    """The book of these lines, over the rights of the fork."""
    return read_book(fork_rights(), "\n".join(lines))


class ReadBookTest(Case):

    def test_lines_in_any_order(self):
        wanted = Book(fork_rights(), ORDERS, [Promise("p", "q"), Promise("s", "r", "b")])
        dice = random.Random(1)
        for _ in range(30):
            lines = dice.sample(LINES, len(LINES))
            book = read(*lines)
            self.assertEqual(book, wanted)
            self.assertEqual((book.orders(), list(book.orders())), (ORDERS, ["a", "b", "c", "d"]))
        self.assertEqual(wanted.promises, (("b", "s", "r"), ("c", "p", "q")))

    def test_promises_with_and_without_a_weir(self):
        rights = Rights(fork(), [("at", "d", "sea"), ("give", "d", "c"), ("order", "d", "d")])
        text = "give order at at d\norder a at\ngive at give\norder c give at\norder d at give order"
        wanted = Book.alike(rights, ["at", "give", "order"], [Promise("order", "at"), Promise("at", "give")])
        self.assertEqual(read_book(rights, text).promises, wanted.promises)
        self.assertEqual(read_book(rights, text).orders()["c"], ("give", "at"))
        text = "order a at\ngive at give at c\norder c at give\norder d at give order"
        self.assertEqual(read_book(rights, text).promises, (("c", "at", "give"),))

    def test_the_same_promise_twice(self):
        self.assertEqual(read(*LINES, "give p q", "give p q at c"), read(*LINES))

    def test_wrong_lines(self):
        wrong = [
            "", " ", " order e s", "order  a s", "order d sea p ", "give p q ", "give  p q", "give p q at ",
            "give p q at  c", "orders d sea", "Order d sea p", "gives p q", "water d 1", "p", "order", "order d",
            "give", "give p", "give p q at", "give p q c", "give p q in c", "give p q at c c", "give p q c at",
            "order e sea", "order sea sea", "order a s q", "order d zz", "order d p zz", "order d d",
            "give p zz", "give zz q", "give c q", "give p zz at c", "give zz q at zz", "give P q", "order D p",
        ]
        for line in wrong:
            for place in (1, 3, 5):
                lines = LINES[:3] + LINES[4:]
                self.fails(NotText(place), read, *lines[:place], line, *lines[place:])

    def test_the_first_wrong_line_comes_before_any_error_of_the_book(self):
        self.fails(NotText(4), read, "give p p", "order a s", "give p r", "give p q at e", "order b", "wrong")
        self.fails(NotText(1), read, "order a q", "order a q s", "order e p", "")
        self.fails(NotText(len(LINES)), read, *LINES, "")
        self.fails(NotText(0), read, "", *LINES)

    def test_errors_of_the_book(self):
        self.fails(NotBook("order", "a", None), read, *LINES[1:])
        self.fails(NotBook("order", "a", None), read, "order a s", *LINES[1:])
        self.fails(NotBook("order", "a", None), read, "order a s q s", *LINES[1:])
        self.fails(NotBook("order", "b", None), read, "order b p", LINES[0], *LINES[2:])
        self.fails(NotBook("order", "b", None), read, "give p q at e", LINES[0], "order b r", *LINES[2:])
        self.fails(NoWeir("e"), read, *LINES, "give p q at e", "give p p")
        self.fails(NoWeir("sea"), read, "give p q at sea", *LINES)
        self.fails(NoWeir("Q!"), read, *LINES, "give p q at Q!")
        self.fails(NotBook("self", None, "p"), read, *LINES, "give p p")
        self.fails(NotBook("meet", None, "p"), read, *LINES, "give p r")
        self.fails(NotBook("meet", "a", "p"), read, *LINES, "give p q at a")
        self.fails(NotBook("both", "c", "q"), read, *LINES, "give q p")

    def test_an_order_of_a_weir_that_nobody_passes(self):
        rights = Rights(River([("a", "sea"), ("b", "a")]), [("p", "a", "a")])
        self.fails(NotBook("order", "b", None), read_book, rights, "order a p\norder b p")
        self.fails(NotText(1), read_book, rights, "order a p\norder b")
        self.assertEqual(read_book(rights, "order a p"), Book(rights, {"a": ["p"]}))

    def test_the_empty_text(self):
        nobody = Rights(fork(), [])
        self.assertEqual(read_book(nobody, ""), Book(nobody, {}))
        self.assertEqual(read_book(rights=nobody, text="").promises, ())
        self.fails(NotText(0), read)
        self.fails(NotText(0), read_book, one_weir("p"), "")
        for text in ["\n", " ", "order a a", "order a", "give p q"]:
            self.fails(NotText(0), read_book, nobody, text)


class WriteBookTest(Case):

    def test_orders_then_promises(self):
        book = Book(fork_rights(), ORDERS, [Promise("p", "q"), Promise("s", "r", "b"), Promise("sea", "p", "d")])
        self.assertEqual(write_book(book), "order a s q\norder b r s\norder c q p\norder d sea p\n"
                         "give s r at b\ngive p q at c\ngive sea p at d")
        self.assertEqual(write_book(Book(Rights(fork(), []), {})), "")
        rights = Rights(River([("b", "a"), ("a", "sea")]), [("p", "a", "a")])
        self.assertEqual(write_book(book=Book(rights, {"b": (), "a": ("p",)})), "order a p")

    def test_what_was_written_reads_back(self):
        for _, book, _ in many_books(80):
            text = write_book(book)
            self.assertEqual(read_book(book.rights, text), book)
            self.assertEqual(write_book(read_book(book.rights, text)), text)
        dice = random.Random(5)
        for rights in many_rights(4, 40, 40):
            book = some_book(dice, rights)
            self.assertEqual(read_book(rights, write_book(book)), book)


if __name__ == "__main__":
    unittest.main()
