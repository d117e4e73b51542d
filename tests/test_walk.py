"""walk.py: points 6.9 to 6.11."""

import itertools
import unittest

from tests.samples import (Case, ODD_COLUMNS, ODD_VALUES, W, around, call, many_books, one_weir, right, three_ends,
                           two_day, unlike)
from weirkeepers.books import Book
from weirkeepers.days import Day
from weirkeepers.dealing import first_sharing
from weirkeepers.errors import NotColumn, NotEnd, RingError
from weirkeepers.ladders import first_hold, hold_of
from weirkeepers.promises import Promise
from weirkeepers.rights import Rights
from weirkeepers.rings import rings
from weirkeepers.rivers import River
from weirkeepers.settled import is_settled
from weirkeepers.table import Table, first_standing, standing_of
from weirkeepers.verdict import Kind, judge
from weirkeepers.walk import Road, Walk, walked

MUCH = 10 ** 30
END = (call("b"), right("a"), right("b"))


def two_walk():
    """The walk of the example."""
    return Walk(Book.alike(one_weir("a", "b"), "ab"), two_day())


def some_walks(count, most_weirs=4, most=5):
    """Walks of some books without rings, with their books and days."""
    return [(dice, book, day, Walk(book, day)) for dice, book, day in many_books(count, most_weirs, most)
            if not rings(book)]


def plain_road(walk, door, begin):
    """The spots and pivots of a road with rights, by the words of the point."""
    table = walk.table
    if begin is None:
        hold = first_hold(walk.ladders, door)
        standing = first_standing(table)
        side, column = "water", next(column for column in hold.columns if column[0] == "right")
    else:
        hold = hold_of(walk.ladders, begin)
        standing = standing_of(table, begin)
        side, column = ("rank" if door in begin else "water"), door
    spots = [(standing.basis, hold.columns)]
    pivots = []
    while True:
        if side == "water":
            standing, left = standing.pivoted(column)
            pivots.append(("water", column, left))
            side, column = "rank", left
        else:
            pivoted = hold.pivoted(column)
            if pivoted is None:
                return spots, pivots
            hold = pivoted[0]
            pivots.append(("rank", pivoted[1], column))
            side, column = "water", pivoted[1]
        spots.append((standing.basis, hold.columns))
        if standing.basis == hold.columns:
            return spots, pivots


class ExampleTest(Case):

    def test_the_example(self):
        walk = two_walk()
        self.assertEqual(walk.table, Table(two_day()))
        self.assertEqual(walk.ladders.ladder(W), (W, right("b"), right("a"), call("a"), call("b")))
        road = walk.road(W)
        self.assertIsInstance(road, Road)
        pivots = (("water", right("a"), call("a")), ("rank", right("b"), call("a")), ("water", right("b"), W))
        self.assertEqual((road.door, road.begin, road.end, road.pivots), (W, None, END, pivots))
        spares = (W, call("a"), call("b"))
        hold = (call("a"), call("b"), right("a"))
        basis = (W, call("b"), right("a"))
        self.assertEqual(road.spots, ((spares, hold), (basis, hold), (basis, END), (END, END)))
        self.assertEqual((len(road), list(road), list(road)), (3, list(pivots), list(pivots)))
        self.assertEqual(walk.sharing(END).cubes(), {"a": 1, "b": 0})
        self.assertEqual([standing_of(walk.table, END).level(column) for column in END], [1, 1, 0])

    def test_the_way_back(self):
        walk = two_walk()
        for begin in itertools.permutations(END):
            for given in (begin, list(begin)):
                road = walk.road(door=W, begin=given)
                self.assertEqual((road.door, road.begin, road.end), (W, END, None))
                self.assertEqual(road.spots, walk.road(W).spots[::-1])
                self.assertEqual(road.pivots, (("water", W, right("b")), ("rank", call("a"), right("b")),
                                               ("water", call("a"), right("a"))))

    def test_a_door_that_belongs_to_the_end(self):
        road = two_walk().road(call("b"), END)
        self.assertEqual(road.pivots[0], ("rank", W, call("b")))
        self.assertEqual((road.spots[1], road.end), ((END, (W, right("a"), right("b"))), None))
        self.assertEqual(two_walk().road(call("b")).spots, road.spots[::-1])

    def test_holders(self):
        holders = two_walk().holders(END)
        self.assertEqual(holders, {"a": call("a"), "b": W})
        self.assertEqual(list(holders), ["a", "b"])
        self.assertEqual(two_walk().holders(columns=list(END[::-1])), {"a": call("a"), "b": W})

    def test_ends(self):
        walk = two_walk()
        for count in range(1, 5):
            for columns in itertools.permutations(walk.table.columns, count):
                self.assertIs(walk.is_end(columns), set(columns) == set(END))
                self.assertIs(walk.is_end(list(columns)), set(columns) == set(END))
        for value in ODD_COLUMNS + [END + (W,), END + END, END + END[:1], (END,), [END], str(END), set(END)]:
            self.assertIs(walk.is_end(value), False)
            for place in range(3):
                columns = list(END)
                columns[place] = value
                self.assertIs(walk.is_end(columns), False)
        self.assertIs(walk.is_end((END[0], END[1], END[1])), False)
        self.assertIs(walk.is_end(columns=END), True)

    def test_values_that_are_no_end(self):
        walk = two_walk()
        wrong = ODD_COLUMNS + [END[:2], END + (W,), (W, call("a"), call("b")), [END[0], END[1], END[1]], [list(END[0])]]
        for value in wrong:
            self.fails(NotEnd(value), walk.sharing, value)
            self.fails(NotEnd(value), walk.holders, value)
            if value is not None:
                self.fails(NotEnd(value), walk.road, W, value)
        self.fails(NotEnd(None), walk.sharing, columns=None)

    def test_doors_come_before_ends(self):
        walk = two_walk()
        for value in ODD_COLUMNS + [right("a")]:
            if value != W:
                self.fails(NotColumn(value), walk.road, value)
                self.fails(NotColumn(value), walk.road, value, "no end")
                self.fails(NotColumn(value), walk.road, value, END)
        self.fails(NotEnd(""), walk.road, call("a"), "")

    def test_results_do_not_change(self):
        walk = two_walk()
        begin = [right("b"), right("a"), call("b")]
        road = walk.road(W, begin)
        begin.clear()
        self.assertEqual((road.begin, walk.road(W, END).spots), (END, road.spots))
        walk.holders(END)["a"] = None
        self.assertEqual(walk.holders(END)["a"], call("a"))


class WithoutRightsTest(Case):

    def test_roads_have_no_spots(self):
        rights = Rights(River([("w", "sea"), ("v", "w")]), [])
        walk = Walk(Book(rights, {}), Day(rights, {}, {"w": 4}))
        spares = (W, ("weir", "v"))
        for door in spares:
            road = walk.road(door)
            self.assertEqual((road.begin, road.end, road.spots, road.pivots), (None, spares, (), ()))
            self.assertEqual((len(road), list(road)), (0, []))
            back = walk.road(door, [("weir", "v"), W])
            self.assertEqual((back.door, back.begin, back.end, back.spots, back.pivots), (door, spares, None, (), ()))
            self.fails(NotEnd([W]), walk.road, door, [W])
        self.fails(NotColumn(("call", "a")), walk.road, ("call", "a"), [W])
        self.assertIs(walk.is_end(spares), True)
        self.assertIs(walk.is_end([W]), False)
        self.assertEqual((walk.sharing(spares).cubes(), walk.holders(spares)), ({}, {}))
        self.assertEqual(walked(walk.ladders.book, walk.table.day).cubes(), {})


class ManyWalksTest(Case):

    def test_roads_from_the_start_and_back(self):
        for dice, book, day, walk in some_walks(120):
            table = walk.table
            for door in dice.sample(table.gates, min(4, len(table.gates))) if book.rights.names else []:
                road = walk.road(door)
                spots, pivots = plain_road(walk, door, None)
                self.assertEqual((list(road.spots), list(road.pivots)), (spots, pivots))
                self.assertEqual((road.begin, road.spots[-1]), (None, (road.end, road.end)))
                self.assertEqual(len(set(road.spots)), len(road.spots))
                self.assertTrue(walk.is_end(road.end))
                self.check_end(book, day, walk, road.end)
                back = walk.road(door, dice.sample(road.end, len(road.end)))
                self.assertEqual((back.begin, back.end, back.spots), (road.end, None, road.spots[::-1]))

    def check_end(self, book, day, walk, end):
        """The sharing of the end is settled, and its holders show this."""
        sharing = walk.sharing(end)
        self.assertTrue(is_settled(book, day, sharing))
        standing = standing_of(walk.table, end)
        self.assertTrue(standing.is_sound)
        for name, gate in walk.holders(end).items():
            self.assertEqual(sharing[name], standing.level(right(name)))
            self.assertEqual(gate, hold_of(walk.ladders, end).holder(right(name)))
            if gate[0] == "call":
                self.assertEqual((gate[1], sharing[name]), (name, day.call(name)))
            else:
                self.assertTrue(book.rights.passes(name, gate[1]))
                self.assertEqual(sharing.use(gate[1]), day.water(gate[1]))
                self.assertTrue(all(book.goes_ahead(gate[1], other, name) for other in book.rights.passing(gate[1])
                                    if other != name and sharing[other] > 0))

    def test_three_ends(self):
        book, day = three_ends()
        walk = Walk(book, day)
        for door in walk.table.gates:
            begin = walk.road(door).end
            self.check_end(book, day, walk, begin)
            for end in {walk.road(gate, begin).end for gate in walk.table.gates} - {None}:
                self.check_end(book, day, walk, end)
                road = walk.road(door, end)
                self.assertEqual((list(road.spots), list(road.pivots)), plain_road(walk, door, end))
                self.assertEqual(road.begin, end)
                self.assertNotEqual(road.end, end)
                self.assertEqual(walk.road(door, road.end).spots, road.spots[::-1])

    def test_large_cubes(self):
        book = unlike()
        day = Day(book.rights, {"a": MUCH, "b": MUCH - 3}, {"up": MUCH - 1, "low": MUCH})
        sharing = walked(book, day)
        self.assertTrue(is_settled(book, day, sharing))
        self.assertEqual(sharing.total, MUCH - 1)

    def test_small_rivers_of_the_greatest_size(self):
        for dice, book, day, walk in some_walks(6, 10, 10):
            for door in walk.table.gates if book.rights.names else ():
                self.check_end(book, day, walk, walk.road(door).end)


class WalkedTest(Case):

    def test_doors(self):
        book, day = three_ends()
        walk = Walk(book, day)
        self.assertEqual(walked(book, day), walk.sharing(walk.road(("weir", "b")).end))
        for door in walk.table.gates:
            self.assertEqual(walked(day=day, book=book, door=door), walk.sharing(walk.road(door).end))
        self.assertEqual(walked(book, day, door=None), walked(book, day))

    def test_the_door_of_the_first_weir(self):
        unlike_doors = 0
        for _, book, day, walk in some_walks(100, 3, 4):
            if book.rights.names:
                sharings = [walk.sharing(walk.road(door).end) for door in walk.table.gates]
                self.assertEqual(walked(book, day), sharings[0])
                unlike_doors += sharings[0] != sharings[-1]
            if judge(book).kind == Kind.ONE:
                self.assertEqual(walked(book, day), first_sharing(book, day))

    def test_errors_in_their_order(self):
        book = around()
        day = Day(book.rights, {}, {})
        for door in [None, W, "zz", right("a")]:
            self.fails(RingError("w", ("a", "b", "c")), walked, book, day, door=door)
        self.fails(RingError("w", ("a", "b", "c")), Walk, book, day)
        three = Rights(unlike().river, [(name, "up", "sea") for name in "cab"])
        bent = Book.alike(three, "abc", [Promise("a", "c", "low")])
        self.fails(RingError("low", ("c", "a", "b")), Walk, bent, Day(three, {}, {}))
        for value in ODD_VALUES + [right("a")]:
            if value is not None:
                self.fails(NotColumn(value), walked, unlike(), Day(unlike().rights, {}, {}), door=value)


if __name__ == "__main__":
    unittest.main()
