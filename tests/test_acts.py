"""acts.py: points 5.4 and 5.5."""

import unittest

from tests.samples import Case, ODD_VALUES, around, many_books, one_weir, unlike
from weirkeepers.acts import Rounds, swing
from weirkeepers.books import Book
from weirkeepers.days import Day
from weirkeepers.errors import NoRight, NotSharing, NotTurn
from weirkeepers.keepers import heeded, is_rest, step

MUCH = 10 ** 30


def row_book():
    """A book of one weir at which a goes ahead of b, and both of c."""
    return Book.alike(one_weir("c", "b", "a"), "abc")


def row_rounds():
    """Rounds of the row with 5 cubes; a calls for 2, b for 2, c for 9; all begin with 0."""
    book = row_book()
    return Rounds(book, Day(book.rights, {"a": 2, "b": 2, "c": 9}, {"w": 5}), {"a": 0, "b": 0, "c": 0})


def wild_rounds():
    """Rounds of two that two weirs rank unlike, with 1 cube; both begin with 0."""
    book = unlike()
    return Rounds(book, Day(book.rights, {}, {}, call=1, water=1), {"a": 0, "b": 0})


class PlainRounds:
    """Rounds by the words of the points."""

    def __init__(self, book, day, start):
        self.book = book
        self.day = day
        self.states = [dict(start)]
        self.grades = [{name: 0 for name in start}]

    def heard(self, rows, name, age):
        """What is heard of the name at this age."""
        count = len(rows) - 1
        return rows[0][name] if age > count else rows[count - age][name]

    def act(self, names, ages):
        """One act; returns the set of the rights whose amount changed."""
        rights = self.book.rights.names
        amounts = {name: self.heard(self.states, name, ages.get(name, 0)) for name in rights}
        grades = {name: self.heard(self.grades, name, ages.get(name, 0)) for name in rights}
        given = step(self.book, self.day, amounts)
        state = dict(self.states[-1])
        grade = dict(self.grades[-1])
        for name in names or rights:
            state[name] = given[name]
            heeds = heeded(self.book, name)
            grade[name] = 121 if not heeds else min(121, 1 + min(grades[other] for other in heeds))
        self.states.append(state)
        self.grades.append(grade)
        return tuple(name for name in rights if state[name] != self.states[-2][name])


class ActTest(Case):

    def test_all_act(self):
        rounds = row_rounds()
        self.assertEqual(rounds.act(), ("c", "b", "a"))
        self.assertEqual(rounds.now(), {"c": 5, "b": 2, "a": 2})
        self.assertEqual(list(rounds.now()), ["c", "b", "a"])
        self.assertEqual(rounds.act(), ("c",))
        self.assertEqual(rounds.act(), ())
        self.assertEqual(rounds.now(), {"c": 1, "b": 2, "a": 2})
        self.assertEqual(rounds.acts, 3)

    def test_some_act_all_at_once(self):
        rounds = row_rounds()
        self.assertEqual(rounds.act("a"), ("a",))
        self.assertEqual(rounds.act("b", "c"), ("c", "b"))
        self.assertEqual(rounds.now(), {"c": 3, "b": 2, "a": 2})
        self.assertEqual(rounds.act("c", "c", "a", "c"), ("c",))
        self.assertEqual(rounds.now(), {"c": 1, "b": 2, "a": 2})
        self.assertEqual(rounds.act("b"), ())
        self.assertEqual(rounds.acts, 4)

    def test_late_news(self):
        rounds = row_rounds()
        rounds.act("a")
        self.assertEqual(rounds.act("c", ages={"a": 1}), ("c",))
        self.assertEqual(rounds.amount("c"), 5)
        self.assertEqual(rounds.act("c", ages={"a": 1, "b": 0}), ("c",))
        self.assertEqual(rounds.amount("c"), 3)
        rounds.act("c", ages={"a": 3})
        self.assertEqual(rounds.amount("c"), 5)
        rounds.act("c", ages={"a": MUCH, "b": 10 ** 40, "c": 7})
        self.assertEqual(rounds.amount("c"), 5)
        rounds.act("c", ages={})
        self.assertEqual(rounds.amount("c"), 3)
        rounds.act(ages={"a": 5})
        self.assertEqual(rounds.now(), {"c": 3, "b": 2, "a": 2})

    def test_grades(self):
        self.assertEqual(Rounds.TOP, 121)
        rounds = row_rounds()
        self.assertEqual([rounds.grade(name) for name in "abc"], [0, 0, 0])
        rounds.act()
        self.assertEqual([rounds.grade(name) for name in "abc"], [121, 1, 1])
        rounds.act("c")
        self.assertEqual([rounds.grade(name) for name in "abc"], [121, 1, 2])
        rounds.act("b")
        self.assertEqual([rounds.grade(name) for name in "abc"], [121, 121, 2])
        rounds.act("c")
        self.assertEqual([rounds.grade(name) for name in "abc"], [121, 121, 121])
        self.assertEqual(rounds.sweeps, 121)
        rounds.act("c", ages={"b": 2})
        self.assertEqual([rounds.grade(name) for name in "abc"], [121, 121, 2])
        rounds.act("c", ages={"a": 9})
        self.assertEqual([rounds.grade("c"), rounds.sweeps], [1, 1])
        self.assertEqual([rounds.grade("c", age) for age in range(8)], [1, 2, 121, 2, 2, 1, 0, 0])

    def test_grades_stop_at_the_top(self):
        rounds = wild_rounds()
        for number in range(1, 130):
            rounds.act()
            self.assertEqual((rounds.grade("a"), rounds.sweeps), (min(number, 121), min(number, 121)))
        rounds.act("a", ages={"b": 12})
        self.assertEqual((rounds.grade("a"), rounds.grade("b"), rounds.sweeps), (118, 121, 118))

    def test_state_0_and_undo(self):
        rounds = row_rounds()
        self.assertIs(rounds.undo(), False)
        rounds.act("a")
        rounds.act("b", "c")
        rounds.act("c")
        told = [rounds.history(), rounds.acts]
        self.assertEqual(told, [[{"c": 0, "b": 0, "a": 0}, {"c": 0, "b": 0, "a": 2}, {"c": 3, "b": 2, "a": 2},
                                 {"c": 1, "b": 2, "a": 2}], 3])
        self.assertIs(rounds.undo(), True)
        self.assertEqual((rounds.acts, rounds.now(), rounds.grade("c")), (2, {"c": 3, "b": 2, "a": 2}, 1))
        self.assertEqual(rounds.act("c"), ("c",))
        self.assertEqual([rounds.history(), rounds.acts], told)
        self.assertEqual([rounds.undo() for _ in range(5)], [True, True, True, False, False])
        self.assertEqual((rounds.acts, rounds.history(), rounds.sweeps), (0, [{"c": 0, "b": 0, "a": 0}], 0))
        self.assertEqual([list(state) for state in rounds.history()], [["c", "b", "a"]])

    def test_amounts_at_every_age(self):
        rounds = row_rounds()
        rounds.act("a")
        rounds.act("b", "c")
        rounds.act("c")
        self.assertEqual([rounds.amount("c", age) for age in (0, 1, 2, 3, 4, 10 ** 40)], [1, 3, 0, 0, 0, 0])
        self.assertEqual([rounds.amount(age=age, name="a") for age in (0, 2, 3)], [2, 2, 0])
        self.assertEqual([rounds.grade(age=age, name="a") for age in (0, 2, 3)], [121, 121, 0])

    def test_rest(self):
        rounds = row_rounds()
        told = [rounds.is_at_rest()]
        for _ in range(3):
            rounds.act()
            told.append(rounds.is_at_rest())
        self.assertEqual(told, [False, False, True, True])
        self.assertIs(told[0], False)
        self.assertIs(told[2], True)
        rounds.act("c", ages={"a": 4})
        self.assertIs(rounds.is_at_rest(), False)

    def test_without_rights(self):
        book = Book(one_weir(), {})
        rounds = Rounds(book, Day(book.rights, {}, {}), {})
        self.assertEqual((rounds.sweeps, rounds.now(), rounds.history(), rounds.acts), (121, {}, [{}], 0))
        self.assertEqual(rounds.act(), ())
        self.assertEqual((rounds.sweeps, rounds.acts, rounds.is_at_rest()), (121, 1, True))

    def test_the_start_may_be_any_amounts(self):
        book = row_book()
        day = Day(book.rights, {"a": MUCH, "b": MUCH, "c": MUCH}, {"w": MUCH})
        start = {"b": 7, "a": 10 ** 31, "c": 0}
        rounds = Rounds(start=start, day=day, book=book)
        self.assertEqual((rounds.book, rounds.day), (book, day))
        start["a"] = 0
        self.assertEqual(rounds.now(), {"c": 0, "b": 7, "a": 10 ** 31})
        self.assertEqual(rounds.act("b", "c"), ("b",))
        rounds.act()
        self.assertEqual(rounds.now(), {"c": 0, "b": 0, "a": MUCH})

    def test_results_are_new_and_arguments_stay(self):
        rounds = row_rounds()
        ages = {"a": 1}
        rounds.act(ages=ages)
        rounds.now()["a"] = 9
        rounds.history()[0]["a"] = 9
        rounds.history().append(None)
        self.assertEqual((ages, rounds.now()["a"], len(rounds.history())), ({"a": 1}, 2, 2))
        self.assertEqual((rounds.amount("a", 1), rounds.amount("a")), (0, 2))

    def test_errors_of_the_start(self):
        book = row_book()
        day = Day(book.rights, {}, {})
        good = {"a": 0, "b": 0, "c": 0}
        for call in [Rounds, swing]:
            for value in [None, True, False, -1, 10 ** 31 + 1, "1", []]:
                self.fails(NotSharing("b"), call, book, day, good | {"b": value, "a": value})
            self.fails(NotSharing("c"), call, book, day, {"a": 0, "b": 0})
            call(book, day, good | {"c": 10 ** 31})

    def test_wrong_turns(self):
        rounds = row_rounds()
        for value in ODD_VALUES + ["w", "A"]:
            if value != "a":
                self.fails(NotTurn(value), rounds.act, "a", value, "zz", ages={"zz": 0})
        for value in [None, True, 1, -1, "", "w", (), ("a",)]:
            self.fails(NotTurn(value), rounds.act, "a", ages={"b": 1, value: 0, "c": -1})
        for value in [None, True, False, -1, -10 ** 40, "1", [], (1,)]:
            self.fails(NotTurn("b"), rounds.act, ages={"c": 2, "b": value, "a": value, "zz": 1})
            self.fails(NotTurn("a"), rounds.act, "b", ages={"a": value, "b": value})
        self.assertEqual((rounds.acts, rounds.history()), (0, [{"c": 0, "b": 0, "a": 0}]))

    def test_errors_of_ages(self):
        rounds = row_rounds()
        for call in [rounds.amount, rounds.grade]:
            for value in ODD_VALUES + ["w"]:
                if value != "a":
                    self.fails(NoRight(value), call, value, -1)
            for value in [None, True, False, -1, "0", [], (0,), [[0]]]:
                self.fails(NotTurn("b"), call, "b", value)
                self.fails(NoRight("zz"), call, "zz", value)

    def test_by_the_words(self):
        for dice, book, day in many_books(120, 4, 6):
            names = book.rights.names
            start = {name: dice.randint(0, 5) for name in names}
            rounds = Rounds(book, day, start)
            plain = PlainRounds(book, day, start)
            for _ in range(12):
                acting = [dice.choice(names) for _ in range(dice.randint(0, 4))] if names else []
                ages = {name: dice.randint(0, 4) for name in names if dice.random() < 0.4}
                self.assertEqual(rounds.act(*acting, ages=dict(ages) if ages else None), plain.act(acting, ages))
                self.assertEqual(rounds.history(), plain.states)
                for name in names:
                    age = dice.randint(0, 14)
                    self.assertEqual(rounds.grade(name, age), plain.heard(plain.grades, name, age))
                    self.assertEqual(rounds.amount(name, age), plain.heard(plain.states, name, age))
                self.assertEqual(rounds.sweeps, min(plain.grades[-1].values(), default=121))
                self.assertEqual(rounds.is_at_rest(), is_rest(book, day, plain.states[-1]))
                if dice.random() < 0.2:
                    self.assertTrue(rounds.undo())
                    plain.states.pop()
                    plain.grades.pop()


class SwingTest(Case):

    def test_a_rest(self):
        rounds = row_rounds()
        start = {"a": 0, "b": 0, "c": 0}
        self.assertEqual(swing(rounds.book, rounds.day, start), (2, 1))
        self.assertEqual(swing(rounds.book, rounds.day, start, most=3), (2, 1))
        self.assertIsNone(swing(rounds.book, rounds.day, start, most=2))
        self.assertEqual(swing(rounds.book, rounds.day, {"c": 1, "b": 2, "a": 2}, most=1), (0, 1))
        self.assertIsNone(swing(rounds.book, rounds.day, {"c": 1, "b": 2, "a": 2}, most=0))

    def test_a_swing_of_two(self):
        book = unlike()
        day = Day(book.rights, {}, {}, call=1, water=1)
        self.assertEqual(swing(book, day, {"a": 0, "b": 0}), (0, 2))
        self.assertEqual(swing(book, day, {"a": 5, "b": 5}), (1, 2))
        self.assertEqual(swing(most=3, start={"a": 5, "b": 5}, day=day, book=book), (1, 2))
        self.assertIsNone(swing(book, day, {"a": 5, "b": 5}, most=2))
        self.assertEqual(swing(book, day, {"a": 1, "b": 0}), (0, 1))

    def test_a_longer_swing(self):
        book = around()
        day = Day(book.rights, {}, {}, call=1, water=1)
        self.assertEqual(swing(book, day, {"a": 1, "b": 0, "c": 0}, most=6), (0, 6))
        self.assertIsNone(swing(book, day, {"a": 1, "b": 0, "c": 0}, most=5))
        self.assertEqual(swing(book, day, {"a": 0, "b": 0, "c": 0}), (0, 2))

    def test_most_is_200(self):
        book = unlike()
        for water, cubes, before in [(99, 100, 199), (100, 100, 200), (100, 99, 200), (99, 99, 198)]:
            day = Day(book.rights, {}, {"up": water, "low": water + 1}, call=1000)
            start = {"a": 0, "b": cubes}
            self.assertEqual(swing(book, day, start, most=before + 1), (before, 1))
            self.assertEqual(swing(book, day, start), (before, 1) if before < 200 else None)

    def test_without_rights(self):
        book = Book(one_weir(), {})
        self.assertEqual(swing(book, Day(book.rights, {}, {}), {}), (0, 1))
        self.assertIsNone(swing(book, Day(book.rights, {}, {}), {}, most=0))

    def test_by_the_words(self):
        for dice, book, day in many_books(150, 4, 6):
            start = {name: dice.randint(0, 5) for name in book.rights.names}
            states = [start]
            while states[-1] not in states[:-1]:
                states.append(step(book, day, states[-1]))
            before = states.index(states[-1])
            length = len(states) - 1 - before
            self.assertEqual(swing(book, day, start, most=before + length), (before, length))
            self.assertIsNone(swing(book, day, start, most=before + length - 1))


if __name__ == "__main__":
    unittest.main()
