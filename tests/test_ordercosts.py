"""ordercosts.py: point 8.10."""

import unittest

from tests.samples import (Case, around, example, far, first_books, fitting, many_books, one_weir, some_worths,
                           three_ends, two_knots)
from weirkeepers.books import Book
from weirkeepers.days import Day
from weirkeepers.errors import TooMany
from weirkeepers.everyday import order_price
from weirkeepers.listing import settled_sharings
from weirkeepers.ordercosts import order_cost
from weirkeepers.sharings import Sharing
from weirkeepers.worths import Worths


class OrderCostTest(Case):

    def test_several(self):
        book, day = example()
        found = order_cost(book, day, Worths(book.rights, {"a": 3, "b": 5}))
        self.assertEqual(found, (0, Sharing(book.rights, {"b": 2}), 4, Sharing(book.rights, {"a": 2})))
        self.assertIsInstance(found, tuple)
        self.assertIsInstance(found[1], Sharing)

    def test_the_first_of_those_that_have_it(self):
        book, day = two_knots()
        worths = Worths(book.rights, {"a": 2, "d": 2, "c": 1, "e": 1, "b": 1})
        rows = {tuple(sharing.cubes().values()): worths.worth_of(sharing) for sharing in settled_sharings(book, day)}
        self.assertEqual(rows, {(0, 0, 1, 3, 1): 5, (0, 1, 1, 3, 0): 6, (1, 0, 0, 3, 1): 6, (1, 1, 0, 3, 0): 7})
        for worth, cheap, dear in [({"a": 2, "d": 2}, (1, 1, 0, 3, 0), (0, 0, 1, 3, 1)),
                                   ({"a": 2, "b": 2}, (1, 0, 0, 3, 1), (0, 1, 1, 3, 0)),
                                   ({"d": 2}, (0, 1, 1, 3, 0), (0, 0, 1, 3, 1)),
                                   ({}, (0, 0, 1, 3, 1), (0, 0, 1, 3, 1))]:
            worths = Worths(book.rights, {name: worth.get(name, 1) for name in book.rights})
            found = order_cost(day=day, worths=worths, book=book)
            self.assertEqual([tuple(found[place].cubes().values()) for place in (1, 3)], [cheap, dear])

    def test_one_and_none(self):
        book = Book.alike(one_weir("a", "b"), "ab")
        worths = Worths(book.rights, {"a": 3, "b": 5})
        sharing = Sharing(book.rights, {"a": 2, "b": 1})
        self.assertEqual(order_cost(book, Day(book.rights, {}, {}, call=2, water=3), worths), (2, sharing, 2, sharing))
        day = Day(around().rights, {}, {}, call=1, water=1)
        self.assertIsNone(order_cost(around(), day, Worths(around().rights, {"a": 1, "b": 1, "c": 1})))
        empty = one_weir()
        self.assertEqual(order_cost(Book(empty, {}), Day(empty, {}, {}), Worths(empty, {})),
                         (0, Sharing(empty, {}), 0, Sharing(empty, {})))

    def test_too_many(self):
        book, day = far()
        self.fails(TooMany((10 ** 30 + 1) ** 2), order_cost, book, day, Worths(book.rights, {"a": 1, "b": 1}))

    def test_by_the_words(self):
        sorts = set()
        for dice, book, day in many_books(150, 4, 4, 3) + [(None,) + three_ends()]:
            worths = some_worths(dice, book.rights) if dice else Worths(book.rights, dict(zip("abcd", (1, 2, 3, 1))))
            sharings = list(settled_sharings(book, day))
            found = order_cost(book, day, worths)
            sorts.add(min(len(sharings), 2))
            if not sharings:
                self.assertIsNone(found)
                continue
            most = max(worths.worth_of(sharing) for sharing in fitting(day))
            costs = [most - worths.worth_of(sharing) for sharing in sharings]
            self.assertEqual(found, (min(costs), sharings[costs.index(min(costs))],
                                     max(costs), sharings[costs.index(max(costs))]))
        self.assertEqual(sorts, {0, 1, 2})

    def test_orders_that_are_free_cost_nothing(self):
        free = 0
        for dice, book, day in first_books(100, 4, 4):
            worths = some_worths(dice, book.rights, 2)
            if order_price(book, worths).is_free:
                free += 1
                self.assertEqual(order_cost(book, day, worths)[2], 0)
        self.assertGreater(free, 10)


if __name__ == "__main__":
    unittest.main()
