"""What several tests share: a case that knows errors, and rivers and rights to try things on."""

import itertools
import random
import unittest

from weirkeepers.books import Book
from weirkeepers.days import Day
from weirkeepers.entries import CallTold, FishOrder, Pledge, Release, SpringRead
from weirkeepers.meetings import pairs
from weirkeepers.promises import Promise
from weirkeepers.rights import Rights
from weirkeepers.rivers import River
from weirkeepers.sharings import Sharing, fits
from weirkeepers.tanks import Tanks
from weirkeepers.verdict import Kind, judge
from weirkeepers.worths import Worths

ODD_VALUES = [None, True, False, 0, 1, -1, 10 ** 39, "", "A", "a b", "seaa", "nine letters", [], ["a"], (), ("a",),
              ("a", "sea"), [["a", ["b", None]]], "\n", "a1", " a", "abcdefghi"]
# Values that are no column of a table with the one weir w.
ODD_COLUMNS = ODD_VALUES + [("weir", "sea"), ("weir",), ["weir", "w"], ("weir", "w", "w"), ("weir", "zz"),
                            ("call", "zz"), ("right", "zz"), ("right", ["a"]), ("left", "a"), "w", ("a", "right"),
                            (("weir", "w"),), ("weir", "w "), ("weir", None), ("call", 1), ("right", "w")]
W = ("weir", "w")


class Case(unittest.TestCase):
    """A test case that compares errors by class and attributes."""

    def fails(self, wanted, call, /, *rest, **more):
        """The call raises just the error that is wanted."""
        with self.assertRaises(type(wanted)) as caught:
            call(*rest, **more)
        self.assertIs(type(caught.exception), type(wanted))
        self.assertEqual(repr(vars(caught.exception)), repr(vars(wanted)))

    def equals_nothing_else(self, thing, *others):
        """The thing is equal to itself, and to none of the others and no value of another kind."""
        self.assertTrue(thing == thing)
        for other in list(others) + ODD_VALUES:
            self.assertFalse(thing == other, other)
            self.assertTrue(thing != other, other)


def name_of(number):
    """A name of one or two letters."""
    letters = "abcdefghijklmnopqrstuvwxyz"
    return letters[number] if number < 26 else letters[number // 26] + letters[number % 26]


def some_river(dice, most=10):
    """A river of 1 to `most` weirs, its rows in any order."""
    size = dice.randint(1, most)
    rows = []
    for number in range(size):
        low = dice.randint(-1 if dice.random() < 0.2 else max(0, number - 3), max(number - 1, 0))
        rows.append((name_of(number), "sea" if number == 0 or low < 0 else name_of(low)))
    dice.shuffle(rows)
    return River(rows)


def some_rights(dice, most_weirs=10, most=10):
    """Rights over some river, of 0 to `most` rows."""
    river = some_river(dice, most_weirs)
    rows = []
    for number in range(dice.randint(0, most)):
        intake = dice.choice(river.weirs)
        last = dice.choice(river.course(intake) + ("sea",))
        rows.append((name_of(number), intake, last))
    dice.shuffle(rows)
    return Rights(river, rows)


def many_rights(count, most_weirs=10, most=10):
    """A list of `count` different rights, always the same ones."""
    dice = random.Random(count)
    return [some_rights(dice, most_weirs, most) for _ in range(count)]


def long_river():
    """A river of 40 weirs in one course; the first row is the deepest weir."""
    names = [name_of(number) for number in range(40)]
    return River(list(zip(names, names[1:] + ["sea"])))


def fork():
    """The river of the example: d runs to c, and b and c run to a."""
    return River([("a", "sea"), ("b", "a"), ("c", "a"), ("d", "c")])


def fork_rights():
    """Rights over the fork: p and q share c, r is over b alone, s and sea end at a."""
    return Rights(fork(), [("p", "d", "c"), ("q", "c", "sea"), ("r", "b", "b"), ("s", "b", "a"), ("sea", "d", "d")])


def some_cubes(dice, keys, most=6):
    """A dict from some of the keys to cubes, added in any order."""
    chosen = [key for key in keys if dice.random() < 0.8]
    dice.shuffle(chosen)
    return {key: dice.randint(0, most) for key in chosen}


def some_orders(dice, rights):
    """An order for each weir that some right passes, and for some of the others."""
    orders = {}
    for weir in rights.river:
        names = list(rights.passing(weir))
        dice.shuffle(names)
        if names or dice.random() < 0.5:
            orders[weir] = dice.choice([list, tuple])(names)
    return orders


def some_promises(dice, rights, most=6):
    """Promises of rights that meet, none of which contradicts another."""
    rows = list(pairs(rights))
    promises = []
    for one, other, weir in dice.sample(rows, min(len(rows), most)):
        giver, taker = dice.choice([(one, other), (other, one)])
        promises.append(Promise(giver, taker, dice.choice([None, weir])))
    return promises


def one_weir(*names):
    """A river of one weir with these rights."""
    return Rights(River([("w", "sea")]), [(name, "w", "w") for name in names])


def some_book(dice, rights):
    """A book whose weirs rank by one line, by orders of their own, or by a line with promises."""
    line = list(rights.names)
    dice.shuffle(line)
    sort = dice.randint(0, 3)
    if sort == 0:
        return Book.alike(rights, line)
    if sort == 1:
        return Book.alike(rights, line, some_promises(dice, rights, 2))
    return Book(rights, some_orders(dice, rights), some_promises(dice, rights) if sort == 2 else ())


def some_day(dice, rights, most=6):
    """A day with calls and waters up to `most`."""
    calls = {name: dice.randint(0, most) for name in rights}
    return Day(rights, calls, {weir: dice.randint(0, most) for weir in rights.river})


def crowded_rights(dice, most_weirs=6, most=6):
    """Rights over a river of one course, most of which pass most of its weirs."""
    size = dice.randint(1, most_weirs)
    names = [name_of(number) for number in range(size)]
    river = River(dice.sample(list(zip(names, names[1:] + ["sea"])), size))
    rows = []
    for number in range(dice.randint(2, max(2, most))):
        intake = dice.choice([names[0], names[0], dice.choice(names)])
        rows.append((name_of(number), intake, dice.choice(["sea", "sea", dice.choice(river.course(intake))])))
    return Rights(river, dice.sample(rows, len(rows)))


def many_books(count, most_weirs=6, most=6, cubes=4):
    """A list of (dice, book, day): `count` different ones, always the same."""
    dice = random.Random(count)
    rights = [(some_rights, crowded_rights)[number % 2](dice, most_weirs, most) for number in range(count)]
    return [(dice, some_book(dice, row), some_day(dice, row, cubes)) for row in rights]


def around(weir="w"):
    """A book of one weir at which a goes ahead of b, b of c, and c of a."""
    rights = Rights(River([(weir, "sea")]), [(name, weir, "sea") for name in "abc"])
    return Book.alike(rights, ["a", "b", "c"], [Promise("a", "c")])


def unlike():
    """A book of two weirs, low below up, that rank a and b the other way round; b is ahead at low."""
    rights = Rights(River([("up", "low"), ("low", "sea")]), [("a", "up", "sea"), ("b", "up", "sea")])
    return Book(rights, {"up": ["a", "b"], "low": ["b", "a"]})


def three_ends():
    """A book and a day with three ends, the sharings of which differ."""
    river = River([("b", "c"), ("c", "sea"), ("a", "b")])
    rights = Rights(river, [("a", "a", "b"), ("b", "b", "c"), ("c", "a", "sea"), ("d", "a", "b")])
    day = Day(rights, {"a": 2, "b": 2, "c": 9, "d": 12}, {"b": 18, "c": 9, "a": 18})
    return Book(rights, {"a": "acd", "b": "bdca", "c": "cb"}), day


def call(name):
    """The call gate of a right."""
    return ("call", name)


def right(name):
    """The column of a right."""
    return ("right", name)


def two_day():
    """A day of one weir w with 1 cube, for which a and b call with 1 each."""
    return Day(one_weir("a", "b"), {}, {}, call=1, water=1)


def example():
    """The book and the day at the end of section 7."""
    book = unlike()
    return book, Day(book.rights, {}, {}, call=2, water=2)


def two_knots():
    """A book and a day with two knots, of a and c on one branch, and of d and b on another; e is not loose."""
    river = River([("low", "mid"), ("up", "low"), ("mid", "sea"), ("hi", "mid")])
    rights = Rights(river, [("a", "up", "low"), ("d", "hi", "sea"), ("c", "up", "low"), ("e", "low", "sea"),
                            ("b", "hi", "mid")])
    book = Book(rights, {"up": "ac", "low": "eca", "hi": "db", "mid": "ebd"})
    return book, Day(rights, {"a": 2, "c": 2, "d": 1, "b": 1, "e": 3}, {"up": 1, "low": 4, "hi": 1, "mid": 4})


def long_wheel():
    """A book, a day and two settled sharings, of a and b, and of c, d and e; all but e go round between them."""
    river = River([("s", "sea"), ("t", "s"), ("u", "t"), ("v", "u"), ("w", "v"), ("x", "w"), ("y", "x")])
    rights = Rights(river, [("e", "u", "u"), ("b", "v", "u"), ("d", "x", "v"), ("c", "w", "sea"), ("a", "y", "sea")])
    book = Book(rights, {"y": "a", "x": "ad", "w": "acd", "v": "acdb", "u": "abce", "t": "ca", "s": "ac"})
    day = Day(rights, {}, {"x": 1, "v": 2, "u": 2, "t": 1}, call=1, water=9)
    return book, day, Sharing(rights, {"a": 1, "b": 1}), Sharing(rights, {"c": 1, "d": 1, "e": 1})


def far():
    """A book and a day with a room above 4096: the two may share 10 ** 30 cubes in any way."""
    book = unlike()
    return book, Day(book.rights, {}, {}, call=10 ** 30, water=10 ** 30)


def fitting(day):
    """All sharings that fit a small day."""
    names = day.rights.names
    rows = itertools.product(*[range(day.call(name) + 1) for name in names])
    sharings = [Sharing(day.rights, dict(zip(names, row))) for row in rows]
    return [sharing for sharing in sharings if fits(day, sharing)]


def some_worths(dice, rights, most=9):
    """A worth up to `most` for each right, the keys added in any order."""
    names = list(rights.names)
    dice.shuffle(names)
    return Worths(rights, {name: dice.randint(1, most) for name in names})


def first_books(count, most_weirs=5, most=5, cubes=3):
    """A list of (dice, book, day) with books of the first kind."""
    rows = many_books(count, most_weirs, most, cubes)
    return [row for row in rows if judge(row[1]).kind == Kind.ONE]


def small_days(rights, calls=1, waters=1):
    """All days with calls and waters up to these."""
    weirs = rights.river.weirs
    for row in itertools.product(*[range(calls + 1)] * len(rights), *[range(waters + 1)] * len(weirs)):
        yield Day(rights, dict(zip(rights.names, row)), dict(zip(weirs, row[len(rights):])))


def wrong_kinds():
    """A book of each kind but the first, with its kind."""
    return [(unlike(), Kind.SOME), (around(), Kind.NONE)]


def some_tanks(dice, rights):
    """Tanks of some of the rights that are not given back, the keys added in any order."""
    names = [name for name in rights if not rights.is_given_back(name) and dice.random() < 0.7]
    dice.shuffle(names)
    return Tanks(rights, {name: dice.choice([1, 2, 5, 10 ** 20]) for name in names})


def some_entries(dice, tanks, count, days, knowns=6):
    """Up to `count` entries of all kinds that can be told of these tanks, in any order."""
    rights = tanks.rights
    entries = []
    for _ in range(count):
        day, number, amount = dice.randrange(days), dice.randint(0, 1), dice.randint(0, 6)
        known = dice.randint(0, knowns)
        sort = dice.randint(0, 4)
        weir = dice.choice(rights.river.weirs)
        if sort == 0:
            entries.append(SpringRead(day, max(day, known), number, weir, amount))
        elif sort == 1:
            entries.append(FishOrder(day, known, number, weir, dice.randint(0, 2)))
        elif sort == 2 and len(rights):
            entries.append(CallTold(day, known, number, dice.choice(rights.names), amount))
        elif sort == 3 and len(tanks):
            entries.append(Release(day, max(day, known), number, dice.choice(tanks.names), dice.randint(0, 3)))
        elif len(rights):
            giver, taker = dice.choice(rights.names), dice.choice(rights.names)
            entries.append(Pledge(day, known, number, giver, taker, dice.choice([None, weir])))
    return entries


def book_order(rights, entry):
    """What sorts entries into book order, by the words of the interface."""
    kind = ["spring", "fish", "call", "release", "pledge"].index(entry.KIND)
    weirs, names = rights.river.weirs, rights.names
    if kind == 4:
        weir = -1 if entry.weir is None else weirs.index(entry.weir)
        places = (names.index(entry.giver), names.index(entry.taker), weir)
        return (entry.day, kind, places, entry.known, entry.number)
    place = (weirs if kind < 2 else names).index(entry.name)
    return (entry.day, kind, (place,), entry.known, entry.number, entry.amount)
