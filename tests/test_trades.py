"""trades.py: points 8.6 and 8.7."""

import itertools
import random
import unittest

from tests.samples import (Case, ODD_VALUES, crowded_rights, fitting, fork_rights, many_rights, one_weir, some_day,
                           some_rights, some_worths)
from weirkeepers.best import best
from weirkeepers.days import Day
from weirkeepers.errors import NoRight, NotSharing, NoWeir
from weirkeepers.rights import Rights
from weirkeepers.rivers import River
from weirkeepers.sharings import Sharing, fits
from weirkeepers.trades import Trade, steps, trade
from weirkeepers.worths import Worths

MUCH = 10 ** 30


def forked():
    """The rights p, q, r, s and sea of the fork, with worths."""
    rights = fork_rights()
    return rights, Worths(rights, {"p": 1, "q": 20, "r": 300, "s": 4000, "sea": 50000})


class TradeTest(Case):

    def test_tuples_in_the_order_of_rights(self):
        rights = fork_rights()
        made = Trade(minus=["sea", "q"], plus=("s", "p"), rights=rights)
        self.assertEqual((made.rights, made.plus, made.minus), (rights, ("p", "s"), ("q", "sea")))
        self.assertEqual((Trade(rights, [], ["p"]).plus, Trade(rights, [], ("p",)).minus), ((), ("p",)))

    def test_each_error_in_its_order(self):
        rights = one_weir("b", "c", "d")
        for value in ODD_VALUES + ["w"]:
            self.fails(NoRight(value), Trade, rights, ["b", "b", value, "zz"], ["yy", "b"])
            self.fails(NoRight(value), Trade, rights, ("b",), ("b", value))
            self.fails(NoRight(value), Trade, rights, [value], [])
        self.fails(NotSharing("c"), Trade, rights, ["b", "c", "c", "b"], [])
        self.fails(NotSharing("c"), Trade, rights, ["b", "c"], ["d", "c", "b"])
        self.fails(NotSharing("b"), Trade, rights, [], ["b", "b"])
        self.fails(NotSharing(None), Trade, rights, [], ())
        self.fails(NotSharing(None), Trade, one_weir(), (), [])

    def test_change_and_is_simple(self):
        rights, _ = forked()
        made = Trade(rights, ["p", "q"], ["sea", "r"])
        self.assertEqual([made.change(weir) for weir in "abcd"], [1, -1, 2, 0])
        self.assertEqual((made.is_simple(), Trade(rights, ["p", "r"], ["sea", "q"]).is_simple()), (False, True))
        self.assertEqual([Trade(rights, [], ["s", "r"]).change(weir) for weir in "abcd"], [-1, -2, 0, 0])
        self.assertFalse(Trade(rights, [], ["s", "r"]).is_simple())
        self.assertTrue(Trade(rights, ["s", "p"], ["sea"]).is_simple())
        for value in ODD_VALUES + ["p", "sea"]:
            if value != "a":
                self.fails(NoWeir(value), made.change, value)

    def test_gain(self):
        rights, worths = forked()
        self.assertEqual(Trade(rights, ["p", "q"], ["sea", "r"]).gain(worths), 21 - 50300)
        self.assertEqual(Trade(rights, ["s"], []).gain(worths=worths), 4000)
        self.assertEqual(Trade(rights, ["s"], ["r", "sea"]).back().gain(worths), 46300)

    def test_most(self):
        rights, _ = forked()
        day = Day(rights, {"p": 9, "q": 9, "r": 9, "s": 9, "sea": 9}, {"a": 10, "b": 8, "c": 20, "d": 11})
        sharing = Sharing(rights, {"p": 1, "q": 2, "r": 3, "s": 1, "sea": 4})
        for plus, minus, wanted in [("p", "", 6), ("q", "", 7), ("r", "", 4), ("rs", "", 2), ("pq", "", 6),
                                    ("pq", "r", 3), ("", "r", 3), ("p", ["sea"], 4), ("qs", "", 3), ("q", "s", 1),
                                    ("q", ["s", "sea"], 1)]:
            self.assertEqual(Trade(rights, list(plus), list(minus)).most(day, sharing), wanted, (plus, minus))
        self.assertEqual(Trade(rights, ["q"], ["s"]).most(sharing=Sharing(rights, {}), day=day), 0)
        self.assertEqual(Trade(rights, ["r"], []).most(day, Sharing(rights, {"r": 8})), 0)
        self.assertEqual(Trade(rights, ["r"], []).most(Day(rights, {}, {}, water=9), Sharing(rights, {})), 0)

    def test_most_with_large_numbers(self):
        rights = Rights(River([("w", "sea")]), [(name, "w", "sea") for name in "abc"])
        day = Day(rights, {}, {}, call=MUCH, water=MUCH)
        self.assertEqual(Trade(rights, ["a"], []).most(day, Sharing(rights, {})), MUCH)
        self.assertEqual(Trade(rights, ["a", "b"], []).most(day, Sharing(rights, {})), MUCH // 2)
        self.assertEqual(Trade(rights, ["a", "b", "c"], []).most(day, Sharing(rights, {"c": 1})), (MUCH - 1) // 3)
        self.assertEqual(Trade(rights, ["a", "b"], ["c"]).most(day, Sharing(rights, {"c": MUCH})), 0)
        self.assertEqual(Trade(rights, ["a"], ["c"]).most(day, Sharing(rights, {"c": MUCH})), MUCH)

    def test_done(self):
        rights, _ = forked()
        sharing = Sharing(rights, {"p": 1, "q": 2, "r": 3, "s": MUCH - 1})
        made = Trade(rights, ["p", "s"], ["q", "r"])
        self.assertEqual(made.done(sharing, 1).cubes(), {"p": 2, "q": 1, "r": 2, "s": MUCH, "sea": 0})
        self.assertEqual(made.done(times=0, sharing=sharing), sharing)
        self.assertEqual(sharing["q"], 2)
        self.fails(NotSharing("s"), made.done, sharing, 2)
        self.fails(NotSharing("q"), made.done, sharing, 3)
        self.fails(NotSharing("p"), made.done, sharing, MUCH + 5)
        self.fails(NotSharing("p"), made.back().done, sharing, 2)
        self.fails(NotSharing("r"), Trade(rights, ["q"], ["r", "s"]).done, sharing, MUCH - 2)
        self.fails(NotSharing("sea"), Trade(rights, ["q"], ["sea"]).done, sharing, 1)

    def test_back(self):
        rights, _ = forked()
        made = Trade(rights, ["p"], ["q", "r"])
        self.assertEqual(made.back(), Trade(rights, ["r", "q"], ["p"]))
        self.assertEqual(made.back().back(), made)

    def test_equality(self):
        rights = one_weir("b", "c", "d")
        made = Trade(rights, ["b", "c"], ["d"])
        self.assertEqual(made, Trade(one_weir("b", "c", "d"), ("c", "b"), ("d",)))
        self.equals_nothing_else(made, made.back(), Trade(rights, ["b"], ["d"]), Trade(rights, ["b", "c"], []),
                                 Trade(one_weir("c", "b", "d"), ["b", "c"], ["d"]), (("b", "c"), ("d",)),
                                 Trade(one_weir("b", "c", "d", "e"), ["b", "c"], ["d"]))

    def test_later_changes_of_the_arguments(self):
        rights = one_weir("b", "c", "d")
        plus = ["c", "b"]
        minus = ["d"]
        made = Trade(rights, plus, minus)
        self.assertEqual((plus, minus), (["c", "b"], ["d"]))
        plus.clear()
        minus.append("b")
        self.assertEqual((made.plus, made.minus), (("b", "c"), ("d",)))

    def test_most_is_the_last_time_that_fits(self):
        dice = random.Random(20)
        for rights in many_rights(60, 4, 5):
            day = some_day(dice, rights, 4)
            names = list(rights.names)
            for sharing in dice.sample(fitting(day), min(4, len(fitting(day)))):
                dice.shuffle(names)
                cut = dice.randint(0, len(names))
                if names:
                    made = Trade(rights, names[:cut], names[cut:])
                    times = made.most(day, sharing)
                    self.assertTrue(fits(day, made.done(sharing, times)))
                    after = {name: sharing[name] + (times + 1) * (1 if name in made.plus else -1) for name in names}
                    self.assertFalse(min(after.values()) >= 0 and fits(day, Sharing(rights, after)))


class FindTest(Case):

    def test_none_exactly_for_the_sharings_of_most_worth(self):
        dice = random.Random(21)
        found_one = 0
        for number in range(120):
            rights = (some_rights, crowded_rights)[number % 2](dice, 4, 4)
            day = some_day(dice, rights, 3)
            worths = some_worths(dice, rights)
            value = best(day, worths).value
            for sharing in fitting(day):
                found = trade(day, worths, sharing)
                self.assertEqual(found is None, worths.worth_of(sharing) == value)
                if found is not None:
                    found_one += 1
                    self.assertIsInstance(found, Trade)
                    self.assertTrue(found.is_simple() and found.gain(worths) >= 1)
                    self.assertTrue(found.most(day, sharing) >= 1 and fits(day, found.done(sharing, 1)))
        self.assertGreater(found_one, 100)

    def test_one_right_against_two(self):
        river = River([("low", "sea"), ("up", "low")])
        rights = Rights(river, [("c", "up", "sea"), ("a", "up", "up"), ("b", "low", "sea")])
        day = Day(rights, {}, {}, call=MUCH, water=MUCH)
        worths = Worths(rights, {"a": 3, "b": 4, "c": 6})
        self.assertEqual(trade(sharing=Sharing(rights, {"c": MUCH}), worths=worths, day=day),
                         Trade(rights, ["a", "b"], ["c"]))
        self.assertIsNone(trade(day, worths, Sharing(rights, {"a": MUCH, "b": MUCH})))

    def test_a_sharing_that_does_not_fit(self):
        rights = one_weir("a", "b")
        worths = Worths(rights, {"a": 1, "b": 2})
        day = Day(rights, {}, {}, call=2, water=3)
        for cubes in [{"a": 3}, {"a": 2, "b": 2}]:
            self.fails(NotSharing(None), trade, day, worths, Sharing(rights, cubes))
        self.assertIsNone(trade(Day(one_weir(), {}, {}), Worths(one_weir(), {}), Sharing(one_weir(), {})))


class StepsTest(Case):

    def check_steps(self, one, other):
        """The steps from the one to the other are as the point says; returns them."""
        rights = one.rights
        rows = steps(one, other)
        self.assertLessEqual(len(rows), len(rights) + len(rights.river))
        difference = {name: 0 for name in rights}
        for times, made in rows:
            self.assertTrue(isinstance(times, int) and times >= 1 and made.is_simple())
            self.assertTrue(all(other[name] > one[name] for name in made.plus))
            self.assertTrue(all(other[name] < one[name] for name in made.minus))
            for weir in rights.river:
                if made.change(weir) == 1:
                    self.assertGreater(other.use(weir), one.use(weir))
                if made.change(weir) == -1:
                    self.assertLess(other.use(weir), one.use(weir))
            for name in rights:
                difference[name] += times * ((name in made.plus) - (name in made.minus))
        self.assertEqual(difference, {name: other[name] - one[name] for name in rights})
        return rows

    def test_drawn_pairs(self):
        dice = random.Random(22)
        for number in range(300):
            rights = (some_rights, crowded_rights)[number % 2](dice, 10, 10)
            most = dice.choice([1, 2, 9, MUCH])
            sharings = [Sharing(rights, {name: dice.randint(0, most) for name in rights}) for _ in range(2)]
            self.check_steps(sharings[0], sharings[1])
            self.assertEqual(steps(sharings[0], sharings[0]), [])

    def test_any_order_leads_through_sharings_that_fit(self):
        dice = random.Random(23)
        several = 0
        for rights in many_rights(80, 4, 4):
            day = some_day(dice, rights, 3)
            sharings = fitting(day)
            for _ in range(4):
                one, other = dice.choice(sharings), dice.choice(sharings)
                rows = self.check_steps(one, other)
                several += len(rows) > 1
                for order in itertools.permutations(rows[:4]):
                    reached = one
                    for times, made in order:
                        for _ in range(times):
                            reached = made.done(reached, 1)
                            self.assertTrue(fits(day, reached))
                    if len(rows) <= 4:
                        self.assertEqual(reached, other)
        self.assertGreater(several, 20)

    def test_equal_sharings_and_no_rights(self):
        self.assertEqual(steps(Sharing(one_weir(), {}), Sharing(one_weir(), {})), [])
        rights = one_weir("a")
        self.assertEqual(steps(other=Sharing(rights, {"a": MUCH}), one=Sharing(rights, {})),
                         [(MUCH, Trade(rights, ["a"], []))])
        steps(Sharing(rights, {}), Sharing(rights, {"a": 1})).clear()
        self.assertEqual(len(steps(Sharing(rights, {}), Sharing(rights, {"a": 1}))), 1)


if __name__ == "__main__":
    unittest.main()
