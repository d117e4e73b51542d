"""unrest.py: points 5.7 to 5.9."""

import random
import unittest

from tests.samples import Case, ODD_VALUES, around, many_books, name_of, one_weir, unlike
from weirkeepers.acts import Rounds, swing
from weirkeepers.books import Book
from weirkeepers.bounds import bounds
from weirkeepers.days import Day
from weirkeepers.errors import NoRight
from weirkeepers.keepers import Keeper, heeded
from weirkeepers.promises import Promise
from weirkeepers.rights import Rights
from weirkeepers.rings import quarrels, rings
from weirkeepers.rivers import River
from weirkeepers.unrest import Unrest, calm, calm_amounts, rest_by, restless, tier, unrest
from weirkeepers.verdict import Kind, judge


def half_calm():
    """A book over two weirs: a and b quarrel, c is ahead of all at up, d behind all at low, e alone at side."""
    river = River([("up", "low"), ("low", "sea"), ("side", "low")])
    rights = Rights(river, [("d", "low", "sea"), ("b", "up", "sea"), ("a", "up", "sea"), ("c", "up", "up"),
                            ("e", "side", "side")])
    return Book(rights, {"up": ["c", "a", "b"], "low": ["b", "a", "d"], "side": ["e"]})


def plain_tier(book, name):
    """The tier by the words of the point: None if heeding goes on for longer than there are rights."""
    wanted = {one: None for one in book.rights.names}
    for _ in book.rights.names:
        for one in wanted:
            below = [wanted[other] for other in heeded(book, one)]
            if None not in below:
                wanted[one] = 1 + max(below, default=0)
    return wanted[name]


class TierTest(Case):

    def test_calm_and_restless(self):
        book = half_calm()
        self.assertEqual([tier(book, name) for name in "abcde"], [None, None, 1, None, 1])
        self.assertEqual((calm(book), restless(book)), (("c", "e"), ("d", "b", "a")))
        line = Book.alike(book.rights, "ecabd")
        self.assertEqual([tier(name=name, book=line) for name in "abcde"], [2, 3, 1, 4, 1])
        self.assertEqual((calm(line), restless(line)), (("d", "b", "a", "c", "e"), ()))
        self.assertEqual((calm(around()), restless(around())), ((), ("a", "b", "c")))
        nobody = Book(one_weir(), {})
        self.assertEqual((calm(nobody), restless(nobody)), ((), ()))

    def test_unknown_rights(self):
        for value in ODD_VALUES + ["up"]:
            if value != "a":
                self.fails(NoRight(value), tier, half_calm(), value)
                self.fails(NoRight(value), unrest, half_calm(), value)
                self.fails(NoRight(value), rest_by, half_calm(), value, gap=1)

    def test_by_the_words(self):
        for _, book, _ in many_books(200):
            names = book.rights.names
            tiers = {name: plain_tier(book, name) for name in names}
            self.assertEqual({name: tier(book, name) for name in names}, tiers)
            self.assertEqual(calm(book), tuple(name for name in names if tiers[name] is not None))
            self.assertEqual(restless(book), tuple(name for name in names if tiers[name] is None))
            self.assertEqual(len(calm(book)) == len(names), judge(book).kind == Kind.ONE)
            loud = {name for row in rings(book) for name in row[1:]}
            loud |= {name for row in quarrels(book) for name in row[:2]}
            while any(name not in loud and loud & set(heeded(book, name)) for name in names):
                loud |= {name for name in names if loud & set(heeded(book, name))}
            self.assertEqual(set(restless(book)), loud)


class CalmAmountsTest(Case):

    def test_along_the_tiers(self):
        line = Book.alike(half_calm().rights, "ecabd")
        day = Day(line.rights, {"c": 2, "d": 9, "e": 1}, {"up": 7, "low": 6, "side": 4}, call=3)
        self.assertEqual(calm_amounts(line, day), {"d": 1, "b": 2, "a": 3, "c": 2, "e": 1})
        self.assertEqual(list(calm_amounts(line, day)), ["d", "b", "a", "c", "e"])
        self.assertEqual(calm_amounts(day=day, book=half_calm()), {"c": 2, "e": 1})
        self.assertEqual(list(calm_amounts(half_calm(), day)), ["c", "e"])
        self.assertEqual(calm_amounts(around(), Day(around().rights, {}, {})), {})

    def test_in_bounds_and_in_rounds(self):
        for dice, book, day in many_books(100):
            amounts = calm_amounts(book, day)
            self.assertEqual(tuple(amounts), calm(book))
            whole = {name: amounts.get(name, 10 ** 31) for name in book.rights.names}
            for name in amounts:
                self.assertEqual(Keeper(book, day, name)(whole), amounts[name])
                rounds = (tier(book, name) + 1) // 2
                found = bounds(book, day, rounds=rounds)
                self.assertEqual((found.low(name), found.high(name)), (amounts[name], amounts[name]))
            play = Rounds(book, day, {name: dice.randint(0, 5) for name in book.rights.names})
            late = dice.randint(0, 2)
            for count in range(1, 25):
                play.act(ages={name: dice.randint(0, late) for name in book.rights.names})
                for name in amounts:
                    if play.grade(name) >= tier(book, name) or count >= rest_by(book, name, gap=1, late=late):
                        self.assertEqual(play.amount(name), amounts[name])


class RestByTest(Case):

    def test_numbers_of_acts(self):
        line = Book.alike(half_calm().rights, "ecabd")
        self.assertEqual([rest_by(line, name, gap=3) for name in "ecabd"], [3, 3, 6, 9, 12])
        self.assertEqual([rest_by(line, name, gap=3, late=2) for name in "ecabd"], [3, 3, 8, 13, 18])
        self.assertEqual([rest_by(half_calm(), name, late=9, gap=1) for name in "ecabd"], [1, 1, None, None, None])
        self.assertEqual(rest_by(gap=1, name="d", book=line), 4)
        self.assertEqual(rest_by(line, "d", gap=10 ** 20, late=10 ** 30), 4 * 10 ** 20 + 3 * 10 ** 30)


class UnrestTest(Case):

    def check(self, book, name, names, weirs):
        """The unrest of the right has this trail and these weirs."""
        found = unrest(book, name)
        self.assertIsInstance(found, Unrest)
        self.assertEqual((found.names, found.weirs), (names, weirs))
        many = len(book.rights)
        day = Day(book.rights, {one: 1 for one in names}, {weir: 1 for weir in weirs}, water=many)
        self.assertEqual(found.day, day)
        self.check_days(book, found)

    def check_days(self, book, found):
        """On the day of the unrest the rights of the trail have 0, 1, 0, 1 .."""
        start = {one: 0 for one in book.rights.names}
        rounds = Rounds(book, found.day, start)
        for count in range(1, 7):
            rounds.act()
            self.assertEqual([rounds.amount(one) for one in found.names], [count % 2] * len(found.names))
        self.assertEqual(swing(book, found.day, start)[1], 2)

    def test_trails_that_come_back(self):
        self.check(unlike(), "a", ("a", "b"), ("up", "low"))
        self.check(unlike(), "b", ("b", "a"), ("up", "low"))
        self.check(around(), "a", ("a", "c", "b"), ("w",))
        self.check(around(), "b", ("b", "a", "c"), ("w",))

    def test_trails_that_end_elsewhere(self):
        book = half_calm()
        self.check(book, "d", ("d", "b", "a"), ("up", "low"))
        self.check(book, "a", ("a", "b"), ("up", "low"))
        self.assertIsNone(unrest(book, "c"))
        self.assertIsNone(unrest(name="e", book=book))

    def test_weirs_in_the_order_of_weirs(self):
        river = River([("low", "sea"), ("mid", "low"), ("up", "mid"), ("top", "up")])
        rights = Rights(river, [("b", "top", "sea"), ("a", "top", "sea")])
        book = Book(rights, {"top": "ab", "up": "ba", "mid": "ab", "low": "ba"})
        self.check(book, "a", ("a", "b"), ("up", "top"))
        book = Book(rights, {"top": "ab", "up": "ab", "mid": "ab", "low": "ba"})
        self.check(book, "b", ("b", "a"), ("low", "top"))

    def test_the_first_right_that_is_restless(self):
        rights = one_weir("z", "c", "b", "a", "d")
        book = Book.alike(rights, ["z", "a", "b", "c", "d"], [Promise("a", "c")])
        self.assertEqual(restless(book), ("c", "b", "a", "d"))
        self.check(book, "d", ("d", "c", "b", "a"), ("w",))
        self.check(book, "a", ("a", "c", "b"), ("w",))

    def test_equality(self):
        ones = [unrest(unlike(), "a"), unrest(unlike(), "b"), unrest(around(), "a"), unrest(half_calm(), "a"),
                unrest(around("v"), "a")]
        for place, found in enumerate(ones):
            self.equals_nothing_else(found, *(ones[:place] + ones[place + 1:]))
        self.assertTrue(unrest(around(), "a") == unrest(around(), "a"))
        book = around()
        other = Book(book.rights, {"w": "abc"}, [Promise("a", "c", "w")])
        self.assertTrue(unrest(book, "b") == unrest(other, "b"))

    def test_by_the_words(self):
        count = 0
        for _, book, _ in many_books(250):
            wild = restless(book)
            for name in calm(book):
                self.assertIsNone(unrest(book, name))
            for name in wild:
                trail = [name]
                weirs = set()
                while True:
                    following = next(one for one in heeded(book, trail[-1]) if one in wild)
                    weirs.add(next(weir for weir in book.rights.way(trail[-1])
                                   if following in book.ahead_at(weir, trail[-1])))
                    if following in trail:
                        break
                    trail.append(following)
                self.check(book, name, tuple(trail), tuple(weir for weir in book.river if weir in weirs))
                count += 1
        self.assertGreater(count, 60)

    def test_large_books(self):
        names = [name_of(number) for number in range(40)]
        dice = random.Random(7)
        rights = Rights(River([("w", "v"), ("v", "sea")]), [(name, "w", "sea") for name in names])
        book = Book(rights, {"w": names, "v": names[::-1]})
        self.assertEqual(len(restless(book)), 40)
        self.check(book, names[39], (names[39], "a", "b"), ("w", "v"))
        line = dice.sample(names, 40)
        book = Book.alike(rights, line)
        self.assertEqual([tier(book, name) for name in line], list(range(1, 41)))


if __name__ == "__main__":
    unittest.main()
