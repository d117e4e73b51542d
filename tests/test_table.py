"""table.py: points 6.1 to 6.5."""

import itertools
import random
import unittest
from fractions import Fraction

from tests.samples import Case, ODD_COLUMNS, W, call, fork_rights, many_books, one_weir, right, two_day, unlike
from weirkeepers.days import Day
from weirkeepers.errors import NotColumn
from weirkeepers.rights import Rights
from weirkeepers.rivers import River
from weirkeepers.table import Standing, Table, first_standing, standing_of

MUCH = 10 ** 30


def is_basis(table, columns):
    """True if the columns of the table are as many as the gates and not dependent, by elimination of fractions."""
    rows = [[Fraction(table.entry(gate, column)) for gate in table.gates] for column in columns]
    if len(rows) != len(table.gates):
        return False
    for at in range(len(rows)):
        best = next((row for row in rows[at:] if row[at] != 0), None)
        if best is None:
            return False
        rows.remove(best)
        rows.insert(at, best)
        for row in rows[at + 1:]:
            times = row[at] / best[at]
            row[:] = [own - times * other for own, other in zip(row, best)]
    return True


class TableTest(Case):

    def test_gates_and_columns_in_their_order(self):
        rights = Rights(River([("b", "a"), ("a", "sea"), ("c", "a")]),
                        [("z", "c", "sea"), ("a", "a", "a"), ("y", "b", "b")])
        table = Table(day=Day(rights, {"z": 4, "a": 5}, {"a": 7, "c": 9}))
        gates = (("weir", "b"), ("weir", "a"), ("weir", "c"), call("z"), call("a"), call("y"))
        self.assertEqual(table.gates, gates)
        self.assertEqual(table.columns, gates + (right("z"), right("a"), right("y")))
        self.assertEqual([table.limit(gate) for gate in gates], [0, 7, 9, 4, 5, 0])
        self.assertEqual(table.day, Day(rights, {"z": 4, "a": 5}, {"a": 7, "c": 9}))

    def test_entries(self):
        table = Table(Day(fork_rights(), {}, {}))
        for gate, column in itertools.product(table.gates, table.columns):
            if column[0] != "right":
                wanted = int(gate == column)
            elif gate[0] == "weir":
                wanted = int(fork_rights().passes(column[1], gate[1]))
            else:
                wanted = int(gate[1] == column[1])
            self.assertEqual(table.entry(gate, column), wanted)
        self.assertEqual(table.entry(column=right("q"), gate=("weir", "a")), 1)
        self.assertEqual(table.entry(("weir", "d"), right("q")), 0)
        self.assertEqual(table.entry(("weir", "d"), right("sea")), 1)

    def test_large_limits(self):
        table = Table(Day(one_weir("a"), {"a": MUCH}, {"w": MUCH - 1}))
        self.assertEqual([table.limit(gate) for gate in table.gates], [MUCH - 1, MUCH])

    def test_wrong_columns_the_gate_first(self):
        table = Table(two_day())
        for value in ODD_COLUMNS:
            if value != W:
                self.fails(NotColumn(value), table.limit, value)
                self.fails(NotColumn(value), table.entry, value, "zz")
                self.fails(NotColumn(value), table.entry, W, value)
        for column in [right("a"), right("b")]:
            self.fails(NotColumn(column), table.limit, gate=column)
            self.fails(NotColumn(column), table.entry, column, column)

    def test_equality(self):
        rights = one_weir("a", "b")
        days = [two_day(), two_day().with_call("a", 2), two_day().with_water("w", 0),
                Day(one_weir("b", "a"), {}, {}, call=1, water=1), Day(one_weir("a"), {}, {}, call=1, water=1)]
        tables = [Table(day) for day in days]
        for place, table in enumerate(tables):
            self.equals_nothing_else(table, *(tables[:place] + tables[place + 1:]))
        self.assertTrue(Table(two_day()) == Table(Day(rights, {"b": 1, "a": 1}, {"w": 1})))


class FirstStandingTest(Case):

    def test_all_spares(self):
        day = Day(fork_rights(), {"p": 3, "q": 2}, {"a": 3, "b": 4})
        table = Table(day)
        standing = first_standing(table)
        self.assertIsInstance(standing, Standing)
        self.assertEqual((standing.table, standing.basis), (table, table.gates))
        self.assertIs(standing.is_sound, True)
        for place, gate in enumerate(table.gates):
            self.assertEqual(standing.level(gate), table.limit(gate))
            for column in table.columns:
                self.assertEqual(standing.figure(gate, column), table.entry(gate, column))
            units = [int(place == at) for at in range(len(table.gates))]
            self.assertEqual(standing.measure(gate), (table.limit(gate), *units))
        self.assertEqual(standing.level(right("p")), 0)

    def test_the_example(self):
        standing = first_standing(table=Table(two_day()))
        pivoted, left = standing.pivoted(right("a"))
        self.assertEqual(left, call("a"))
        self.assertEqual((standing.measure(W), standing.measure(call("a"))), ((1, 1, 0, 0), (1, 0, 1, 0)))
        self.assertEqual(pivoted.basis, (W, call("b"), right("a")))
        self.assertEqual(pivoted.measure(W), (0, 1, -1, 0))
        self.assertEqual(pivoted.measure(right("a")), (1, 0, 1, 0))

    def test_wrong_columns(self):
        standing = first_standing(Table(two_day())).pivoted(right("a"))[0]
        for value in ODD_COLUMNS:
            if value != W:
                self.fails(NotColumn(value), standing.figure, value, "zz")
                self.fails(NotColumn(value), standing.figure, right("a"), value)
                self.fails(NotColumn(value), standing.level, value)
                self.fails(NotColumn(value), standing.measure, value)
                self.fails(NotColumn(value), standing.pivoted, value)
        for column in [call("a"), right("b")]:
            self.fails(NotColumn(column), standing.figure, column, "zz")
            self.fails(NotColumn(column), standing.measure, column)
            self.assertEqual(standing.level(column=column), 0)
        for column in standing.basis:
            self.fails(NotColumn(column), standing.pivoted, column)


class StandingOfTest(Case):

    def test_any_order(self):
        table = Table(two_day())
        for columns in itertools.permutations([right("b"), W, call("a")]):
            for given in (columns, list(columns)):
                standing = standing_of(table, given)
                self.assertEqual(standing.basis, (W, call("a"), right("b")))
                self.assertEqual([standing.level(column) for column in standing.basis], [0, 1, 1])
        self.assertEqual(standing_of(columns=list(table.gates), table=table), first_standing(table))

    def test_no_basis(self):
        table = Table(two_day())
        for columns in [[], [W], [W, right("a")], list(table.columns), list(table.gates) + [right("a")],
                        [W, call("a"), call("b"), right("b")]]:
            self.assertIsNone(standing_of(table, columns))
            self.assertIsNone(standing_of(table, tuple(columns)))
        rights = Rights(River([("up", "low"), ("low", "sea")]), [("a", "up", "sea"), ("b", "up", "sea")])
        wide = Table(Day(rights, {}, {}))
        self.assertIsNone(standing_of(wide, [right("a"), right("b"), call("a"), call("b")]))
        self.assertIsNotNone(standing_of(wide, [right("a"), right("b"), ("weir", "up"), call("b")]))
        self.assertIsNone(standing_of(wide, [right("a"), call("a"), ("weir", "up"), ("weir", "low")]))

    def test_wrong_columns(self):
        table = Table(two_day())
        for value in ODD_COLUMNS + [right("a")]:
            if value != W:
                self.fails(NotColumn(value), standing_of, table, [right("a"), value, "zz", right("a")])
                self.fails(NotColumn(value), standing_of, table, table.columns + (value,))
        self.fails(NotColumn(W), standing_of, table, [W, W, "zz"])
        self.fails(NotColumn("zz"), standing_of, table, ["zz", W, W])

    def test_levels_below_0(self):
        rights = one_weir("a", "b")
        table = Table(Day(rights, {"a": 5, "b": 4}, {"w": 3}))
        standing = standing_of(table, [right("a"), right("b"), call("b")])
        self.assertEqual([standing.level(column) for column in table.columns], [0, 0, 6, 5, -2])
        self.assertIs(standing.is_sound, False)
        self.assertEqual(standing.measure(right("b")), (-2, 1, -1, 0))
        self.assertEqual(standing.measure(call("b")), (6, -1, 1, 1))
        self.assertEqual(standing.figure(call("b"), call("a")), 1)
        self.assertEqual(standing.figure(one=right("b"), column=call("b")), 0)

    def test_soundness_with_ties_in_the_levels(self):
        table = Table(two_day())
        sound = [columns for columns in itertools.combinations(table.columns, 3)
                 if standing_of(table, columns) is not None and standing_of(table, columns).is_sound]
        self.assertEqual(sound, [(W, call("a"), call("b")), (W, call("a"), right("b")), (W, call("b"), right("a")),
                                 (call("a"), right("a"), right("b")), (call("b"), right("a"), right("b"))])
        low = standing_of(table, [call("a"), call("b"), right("a")])
        self.assertEqual((low.level(call("a")), low.measure(call("a")), low.is_sound), (0, (0, -1, 1, 0), False))

    def test_by_the_words(self):
        dice = random.Random(6)
        found = 0
        for _, book, day in many_books(120, 4, 4, 3):
            table = Table(day)
            for _ in range(12):
                columns = dice.sample(table.columns, len(table.gates))
                standing = standing_of(table, columns)
                self.assertEqual(standing is not None, is_basis(table, columns))
                if standing is not None:
                    found += 1
                    self.check_standing(standing, columns)
        self.assertGreater(found, 300)

    def check_standing(self, standing, columns):
        """The figures make each column, the levels make the limits."""
        table = standing.table
        self.assertEqual(standing.basis, tuple(column for column in table.columns if column in columns))
        for gate in table.gates:
            rows = [(one, table.entry(gate, one)) for one in standing.basis]
            self.assertEqual(sum(standing.level(one) * entry for one, entry in rows), table.limit(gate))
            for column in table.columns:
                self.assertEqual(sum(standing.figure(one, column) * entry for one, entry in rows),
                                 table.entry(gate, column))
        sound = True
        for one in standing.basis:
            figures = [standing.figure(one, gate) for gate in table.gates]
            self.assertEqual(standing.measure(one), (standing.level(one), *figures))
            self.assertTrue(set(standing.figure(one, column) for column in table.columns) <= {-1, 0, 1})
            sound = sound and next(number for number in standing.measure(one) if number != 0) > 0
        self.assertIs(standing.is_sound, sound)
        for column in table.columns:
            if column not in standing.basis:
                self.assertEqual(standing.level(column), 0)

    def test_water_pivots(self):
        dice = random.Random(8)
        for _, book, day in many_books(60, 4, 4, 3):
            table = Table(day)
            standing = first_standing(table)
            columns = dice.sample(table.columns, len(table.gates))
            unsound = standing_of(table, columns) if is_basis(table, columns) else standing
            for _ in range(8):
                outside = [column for column in table.columns if column not in standing.basis]
                if outside:
                    standing = self.check_pivot(standing, dice.choice(outside))
                    self.assertTrue(standing.is_sound)
                    outside = [column for column in table.columns if column not in unsound.basis]
                    unsound = self.check_pivot(unsound, dice.choice(outside))

    def check_pivot(self, standing, came):
        """The pivot leads to the standing of the new basis; the old one stays. Returns the new one."""
        old = (standing.basis, {one: standing.measure(one) for one in standing.basis})
        leaving = [one for one in standing.basis if standing.figure(one, came) == 1]
        wanted = min(leaving, key=standing.measure)
        pivoted, left = standing.pivoted(column=came)
        self.assertEqual(left, wanted)
        basis = [one for one in standing.basis if one != left] + [came]
        self.assertEqual(pivoted, standing_of(standing.table, basis))
        self.check_standing(pivoted, basis)
        self.assertEqual((standing.basis, {one: standing.measure(one) for one in standing.basis}), old)
        return pivoted

    def test_large_cubes(self):
        book = unlike()
        table = Table(Day(book.rights, {"a": MUCH, "b": MUCH}, {"up": MUCH - 1, "low": MUCH}))
        standing, left = first_standing(table).pivoted(right("a"))
        self.assertEqual(left, ("weir", "up"))
        self.assertEqual((standing.level(right("a")), standing.level(("weir", "low"))), (MUCH - 1, 1))
        self.assertEqual(standing.measure(call("a")), (1, -1, 0, 1, 0))

    def test_equality(self):
        table = Table(two_day())
        ones = [first_standing(table), standing_of(table, [W, call("a"), right("b")]),
                first_standing(Table(two_day().with_call("a", 2)))]
        for place, standing in enumerate(ones):
            self.equals_nothing_else(standing, *(ones[:place] + ones[place + 1:]))
        self.assertTrue(first_standing(Table(two_day())) == ones[0])
        self.assertTrue(first_standing(table).pivoted(right("b"))[0] == ones[1])


if __name__ == "__main__":
    unittest.main()
