"""ladders.py: points 6.6 to 6.8."""

import itertools
import unittest

from tests.samples import Case, ODD_COLUMNS, W, around, call, many_books, one_weir, right, two_day
from weirkeepers.books import Book
from weirkeepers.days import Day
from weirkeepers.errors import NotColumn, RingError
from weirkeepers.ladders import Hold, Ladders, first_hold, hold_of
from weirkeepers.promises import Promise
from weirkeepers.rights import Rights
from weirkeepers.rings import rings
from weirkeepers.rivers import River
from weirkeepers.table import Table


def two_book():
    """A book of one weir at which a goes ahead of b."""
    return Book.alike(one_weir("a", "b"), "ab")


def two_ladders():
    """The ladders of that book on the day of the example."""
    return Ladders(two_book(), Table(two_day()))


def plain_ladder(book, gates, gate):
    """The ladder of a gate by the words of the point."""
    names = book.rights.names
    passing = (gate[1],) if gate[0] == "call" else tuple(reversed(book.ranked(gate[1])))
    rows = [right(name) for name in passing] + [right(name) for name in names if name not in passing]
    return (gate, *rows, *[spare for spare in gates if spare != gate])


def is_hold(ladders, columns):
    """True if the columns are a hold, by the words of the point."""
    table = ladders.table
    if len(set(columns)) != len(table.gates):
        return False
    for column in table.columns:
        if not any(column == low or ladders.is_above(gate, low, column)
                   for gate in table.gates for low in [plain_low(ladders, gate, columns)]):
            return False
    return True


def plain_low(ladders, gate, columns):
    """The low of some columns at a gate."""
    return next(column for column in ladders.ladder(gate) if column in columns)


def plain_pivot(ladders, columns, k):
    """The set and the column that the rank pivot of k leads to, by the words of the point, or None."""
    gates = ladders.table.gates
    g = next(gate for gate in gates if plain_low(ladders, gate, columns) == k)
    rest = [column for column in columns if column != k]
    if not rest:
        return None
    j = plain_low(ladders, g, rest)
    h = next(gate for gate in gates if plain_low(ladders, gate, columns) == j)
    candidates = [column for column in ladders.table.columns if all(
        gate == h or ladders.is_above(gate, column, plain_low(ladders, gate, rest)) for gate in gates)]
    if not candidates:
        return None
    came = max(candidates, key=ladders.ladder(h).index)
    return set(rest + [came]), came


def some_ladders(count, most_weirs=4, most=4):
    """Ladders of some books without rings."""
    return [(dice, Ladders(book, Table(day))) for dice, book, day in many_books(count, most_weirs, most)
            if not rings(book)]


class LaddersTest(Case):

    def test_the_example(self):
        ladders = two_ladders()
        self.assertEqual((ladders.book, ladders.table), (two_book(), Table(two_day())))
        self.assertEqual(ladders.ladder(W), (W, right("b"), right("a"), call("a"), call("b")))
        self.assertEqual(ladders.ladder(call("a")), (call("a"), right("a"), right("b"), W, call("b")))
        self.assertEqual(ladders.ladder(gate=call("b")), (call("b"), right("b"), right("a"), W, call("a")))

    def test_rights_that_do_not_pass(self):
        rights = Rights(River([("low", "sea"), ("up", "low")]), [("d", "low", "low"), ("c", "up", "up"),
                                                                 ("b", "up", "sea"), ("a", "low", "sea")])
        book = Book(rights, {"up": "cb", "low": "bad"}, [Promise("b", "a")])
        ladders = Ladders(table=Table(Day(rights, {}, {})), book=book)
        spares = ladders.table.gates
        self.assertEqual(ladders.ladder(("weir", "up")), (
            ("weir", "up"), right("b"), right("c"), right("d"), right("a"), ("weir", "low"), *spares[2:]))
        self.assertEqual(ladders.ladder(("weir", "low")), (
            ("weir", "low"), right("d"), right("b"), right("a"), right("c"), ("weir", "up"), *spares[2:]))
        self.assertEqual(ladders.ladder(call("b")), (
            call("b"), right("b"), right("d"), right("c"), right("a"),
            *[spare for spare in spares if spare != call("b")]))

    def test_by_the_words(self):
        for _, ladders in some_ladders(60, 5, 6):
            gates = ladders.table.gates
            for gate in gates:
                wanted = plain_ladder(ladders.book, gates, gate)
                self.assertEqual(ladders.ladder(gate), wanted)
                for one, other in itertools.product(wanted[::3], wanted[::2]):
                    self.assertIs(ladders.is_above(gate, one, other), wanted.index(one) > wanted.index(other))

    def test_is_above(self):
        ladders = two_ladders()
        self.assertIs(ladders.is_above(W, right("a"), right("b")), True)
        self.assertIs(ladders.is_above(other=right("a"), one=right("b"), gate=W), False)
        self.assertIs(ladders.is_above(W, W, W), False)

    def test_wrong_columns(self):
        ladders = two_ladders()
        for value in ODD_COLUMNS:
            if value != W:
                self.fails(NotColumn(value), ladders.ladder, value)
                self.fails(NotColumn(value), ladders.is_above, value, "yy", "zz")
                self.fails(NotColumn(value), ladders.is_above, W, value, "zz")
                self.fails(NotColumn(value), ladders.is_above, W, W, value)
        self.fails(NotColumn(right("a")), ladders.ladder, right("a"))
        self.fails(NotColumn(right("a")), ladders.is_above, right("a"), right("a"), right("a"))

    def test_rings(self):
        book = around()
        self.fails(RingError("w", ("a", "b", "c")), Ladders, book, Table(Day(book.rights, {}, {})))
        rights = Rights(River([("low", "sea"), ("up", "low")]), [(name, "up", "sea") for name in "dcba"])
        book = Book.alike(rights, "abcd", [Promise("a", "d"), Promise("b", "d", "up")])
        self.fails(RingError("low", ("d", "a", "c")), Ladders, book, Table(Day(rights, {}, {})))

    def test_equality_of_unlike_books(self):
        rights = one_weir("a", "b")
        table = Table(two_day())
        ones = [two_ladders(), Ladders(Book.alike(rights, "ba"), table),
                Ladders(two_book(), Table(two_day().with_water("w", 2)))]
        for place, ladders in enumerate(ones):
            self.equals_nothing_else(ladders, *(ones[:place] + ones[place + 1:]))
        turned = Book.alike(rights, "ba", [Promise("b", "a")])
        self.assertFalse(turned == two_book())
        self.assertTrue(Ladders(turned, table) == two_ladders())


class HoldTest(Case):

    def test_the_first_hold(self):
        hold = first_hold(two_ladders(), W)
        self.assertIsInstance(hold, Hold)
        self.assertEqual((hold.columns, hold.ladders), ((call("a"), call("b"), right("a")), two_ladders()))
        self.assertEqual([hold.low(gate) for gate in (W, call("a"), call("b"))], [right("a"), call("a"), call("b")])
        self.assertEqual([hold.gate_of(column) for column in hold.columns], [call("a"), call("b"), W])
        self.assertEqual([hold.holder(column) for column in hold.ladders.table.columns],
                         [W, call("a"), call("b"), W, W])
        self.assertEqual(first_hold(two_ladders(), call("a")).columns, (W, call("b"), right("b")))
        self.assertEqual(first_hold(door=call("b"), ladders=two_ladders()).columns, (W, call("a"), right("a")))

    def test_first_holds_of_every_door(self):
        for _, ladders in some_ladders(60, 5, 6):
            table = ladders.table
            for door in table.gates:
                hold = first_hold(ladders, door)
                if not ladders.book.rights.names:
                    self.assertIsNone(hold)
                    continue
                highest = [column for column in ladders.ladder(door) if column[0] == "right"][-1]
                self.assertEqual(hold.columns, tuple(gate for gate in table.gates if gate != door) + (highest,))
                self.assertTrue(is_hold(ladders, hold.columns))

    def test_wrong_doors(self):
        nobody = Ladders(Book(one_weir(), {}), Table(Day(one_weir(), {}, {})))
        for value in ODD_COLUMNS + [right("a")]:
            if value != W:
                self.fails(NotColumn(value), first_hold, two_ladders(), value)
                self.fails(NotColumn(value), first_hold, nobody, value)
        self.assertIsNone(first_hold(nobody, W))

    def test_wrong_columns(self):
        hold = first_hold(two_ladders(), W)
        for value in ODD_COLUMNS:
            if value != W:
                self.fails(NotColumn(value), hold.low, value)
                self.fails(NotColumn(value), hold.gate_of, value)
                self.fails(NotColumn(value), hold.holder, value)
                self.fails(NotColumn(value), hold.pivoted, value)
        self.fails(NotColumn(right("a")), hold.low, gate=right("a"))
        for column in [W, right("b")]:
            self.fails(NotColumn(column), hold.gate_of, column)
            self.fails(NotColumn(column), hold.pivoted, column)
            self.assertEqual(hold.holder(column=column), W)

    def test_sets_in_any_order(self):
        for columns in itertools.permutations([right("a"), call("b"), right("b")]):
            for given in (columns, list(columns)):
                self.assertEqual(hold_of(two_ladders(), given).columns, (call("b"), right("a"), right("b")))
        for columns in [[], [W], [W, call("a"), call("b")], [right("a"), right("b")],
                        [W, right("a"), right("b"), call("a")]]:
            self.assertIsNone(hold_of(ladders=two_ladders(), columns=columns))
        for value in ODD_COLUMNS + [right("a")]:
            if value != W:
                self.fails(NotColumn(value), hold_of, two_ladders(), [right("a"), value, "zz", right("a")])
        self.fails(NotColumn(W), hold_of, two_ladders(), (W, W, "zz", right("a")))

    def test_by_the_words(self):
        holds = 0
        for dice, ladders in some_ladders(150):
            table = ladders.table
            for _ in range(15):
                columns = dice.sample(table.columns, len(table.gates))
                hold = hold_of(ladders, columns)
                self.assertEqual(hold is not None, is_hold(ladders, columns))
                if hold is not None:
                    holds += 1
                    self.check_hold(hold, columns)
        self.assertGreater(holds, 40)

    def check_hold(self, hold, columns):
        """The lows, the gates, the holders and the rank pivots are as the points say."""
        ladders = hold.ladders
        table = ladders.table
        self.assertEqual(hold.columns, tuple(column for column in table.columns if column in columns))
        lows = {gate: plain_low(ladders, gate, columns) for gate in table.gates}
        self.assertEqual({gate: hold.low(gate) for gate in table.gates}, lows)
        self.assertEqual({hold.gate_of(column): column for column in hold.columns}, lows)
        for column in table.columns:
            wanted = next(gate for gate in table.gates
                          if column == lows[gate] or ladders.is_above(gate, lows[gate], column))
            self.assertEqual(hold.holder(column), wanted)
        for column in hold.columns:
            pivoted = hold.pivoted(column)
            wanted = plain_pivot(ladders, columns, column)
            spares = all(other[0] != "right" for other in columns if other != column)
            self.assertEqual((pivoted is None, wanted is None), (spares, spares))
            if wanted is not None:
                self.assertEqual((set(pivoted[0].columns), pivoted[1]), wanted)
                self.assertTrue(is_hold(ladders, pivoted[0].columns))
                back = pivoted[0].pivoted(pivoted[1])
                self.assertEqual(back, (hold, column))

    def test_rank_pivots_of_the_example(self):
        hold = first_hold(two_ladders(), W)
        self.assertIsNone(hold.pivoted(right("a")))
        pivoted, came = hold.pivoted(column=call("a"))
        self.assertEqual((came, pivoted.columns), (right("b"), (call("b"), right("a"), right("b"))))
        self.assertEqual(hold.columns, (call("a"), call("b"), right("a")))
        self.assertEqual(hold.pivoted(call("b"))[1], W)
        self.assertEqual(hold.pivoted(call("a")), (pivoted, came))

    def test_chains_of_rank_pivots(self):
        for dice, ladders in some_ladders(40, 5, 6):
            hold = first_hold(ladders, dice.choice(ladders.table.gates))
            for _ in range(10 if hold else 0):
                self.check_hold(hold, hold.columns)
                pivoted = hold.pivoted(dice.choice(hold.columns))
                hold = pivoted[0] if pivoted else hold

    def test_without_rights(self):
        for river in [River([("w", "sea")]), River([("w", "sea"), ("v", "w")])]:
            rights = Rights(river, [])
            ladders = Ladders(Book(rights, {}), Table(Day(rights, {}, {}, water=3)))
            hold = hold_of(ladders, ladders.table.gates[::-1])
            self.assertEqual(hold.columns, ladders.table.gates)
            self.assertEqual(hold.holder(W), W)
            self.assertIsNone(hold.pivoted(W))

    def test_equality(self):
        ladders = two_ladders()
        other = Ladders(Book.alike(one_weir("a", "b"), "ba"), Table(two_day()))
        ones = [first_hold(ladders, W), first_hold(ladders, call("a")),
                hold_of(other, [call("a"), call("b"), right("b")]),
                first_hold(Ladders(two_book(), Table(two_day().with_call("b", 3))), W)]
        for place, hold in enumerate(ones):
            self.equals_nothing_else(hold, *(ones[:place] + ones[place + 1:]))
        self.assertTrue(hold_of(two_ladders(), [right("a"), call("b"), call("a")]) == ones[0])


if __name__ == "__main__":
    unittest.main()
