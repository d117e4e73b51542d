"""lines.py: points 2.7 to 2.9."""

import itertools
import random
import unittest

from tests.samples import Case, ODD_VALUES, fork, fork_rights, long_river, many_rights, name_of
from weirkeepers.errors import NoRight
from weirkeepers.lines import goes_round, line_pairs, line_up, shrunk
from weirkeepers.meetings import meet, pairs
from weirkeepers.rights import Rights
from weirkeepers.rivers import River


def some_ahead(dice, rights):
    """An ahead list, in any order."""
    ahead = [dice.choice([(one, other), (other, one)]) for one, other, _ in pairs(rights)]
    dice.shuffle(ahead)
    return ahead


def follows(names, ahead):
    return all((name, behind) in ahead for name, behind in zip(names, names[1:] + names[:1]))


def some_round(dice, rights, ahead):
    """A round of the ahead list as long as a walk finds it, or None."""
    trail = [dice.choice(rights.names)]
    while True:
        behind = [other for one, other in ahead if one == trail[-1]]
        if not behind:
            return None
        name = dice.choice(behind)
        if name in trail:
            return tuple(trail[trail.index(name):])
        trail.append(name)


def first_ring(rights, ahead):
    """What the words of line_up want: ("ring", weir, names), or None."""
    for weir in rights.river:
        for trio in itertools.combinations(rights.passing(weir), 3):
            for names in (trio, (trio[0], trio[2], trio[1])):
                if follows(names, ahead):
                    return "ring", weir, names
    return None


class LinePairsTest(Case):

    def test_order_of_the_list(self):
        rights = fork_rights()
        self.assertEqual(line_pairs(rights, ["p", "q", "r", "s", "sea"]),
                         [("p", "q"), ("p", "sea"), ("q", "s"), ("r", "s")])
        self.assertEqual(line_pairs(rights, ["sea", "s", "q", "r", "p"]),
                         [("q", "p"), ("sea", "p"), ("s", "q"), ("s", "r")])
        self.assertEqual(line_pairs(Rights(fork(), []), []), [])

    def test_against_the_definition(self):
        dice = random.Random(11)
        for rights in many_rights(30):
            names = list(rights.names)
            dice.shuffle(names)
            wanted = [tuple(sorted((one, other), key=names.index)) for one, other, _ in pairs(rights)]
            self.assertEqual(line_pairs(rights, names), wanted)

    def test_wrong_names(self):
        rights = fork_rights()
        names = ["p", "q", "r", "s", "sea"]
        for value in ODD_VALUES + ["a", "zz", "q"]:
            self.fails(NoRight(value), line_pairs, rights, names[:2] + [value] + names[2:] + ["nobody"])
        self.fails(NoRight("r"), line_pairs, rights, ["p", "q", "s"])
        self.fails(NoRight("p"), line_pairs, rights, [])
        self.fails(NoRight("sea"), line_pairs, rights, ["s", "r", "q", "p"])
        self.fails(NoRight("s"), line_pairs, rights, ["s", "s"])
        line_pairs(rights, names[::-1])
        self.assertEqual(names, ["p", "q", "r", "s", "sea"])


class LineUpTest(Case):

    def test_a_line_by_the_rule(self):
        rights = fork_rights()
        self.assertEqual(line_up(rights, line_pairs(rights, list(rights.names))), ("line", rights.names))
        self.assertEqual(line_up(rights, [("sea", "p"), ("q", "p"), ("s", "q"), ("s", "r")]),
                         ("line", ("s", "q", "r", "sea", "p")))
        self.assertEqual(line_up(Rights(fork(), []), []), ("line", ()))

    def test_the_first_of_several_rounds(self):
        river = River([("c", "b"), ("a", "sea"), ("b", "a")])
        rights = Rights(river, [("u", "a", "a"), ("v", "b", "a"), ("w", "c", "a"), ("x", "c", "a"), ("y", "c", "c")])
        ahead = line_pairs(rights, ["u", "v", "w", "x", "y"])

        def turned(*rows):
            return [row[::-1] if row in rows else row for row in ahead]

        self.assertEqual(line_up(rights, turned(("u", "w"))), ("ring", "a", ("u", "v", "w")))
        self.assertEqual(line_up(rights, turned(("u", "x"))), ("ring", "a", ("u", "v", "x")))
        self.assertEqual(line_up(rights, turned(("u", "x"), ("w", "y"))), ("ring", "c", ("w", "x", "y")))
        self.assertEqual(line_up(rights, turned(("u", "v"), ("u", "x"))),
                         ("ring", "a", ("u", "w", "x")))
        self.assertEqual(line_up(rights, turned(("u", "v"), ("v", "x"))), ("ring", "a", ("u", "x", "v")))
        self.assertEqual(line_up(rights, turned(("u", "v"), ("v", "x"))[::-1]), ("ring", "a", ("u", "x", "v")))

    def test_against_the_definitions(self):
        dice = random.Random(12)
        found = []
        for rights in many_rights(150):
            ahead = some_ahead(dice, rights)
            copy = list(ahead)
            answer = line_up(rights, ahead)
            found.append(answer[0])
            self.assertEqual(ahead, copy)
            self.assertIsInstance(answer, tuple)
            ring = first_ring(rights, ahead)
            if ring is not None:
                self.assertEqual(answer, ring)
                continue
            left = list(rights.names)
            line = []
            while left:
                line.append([name for name in left if not any((other, name) in ahead for other in left)][0])
                left.remove(line[-1])
            self.assertEqual(answer, ("line", tuple(line)))
        self.assertTrue(10 < found.count("line") < 140)

    def test_forty(self):
        river = long_river()
        rights = Rights(river, [(name, name, "sea") for name in river])
        names = list(rights.names)
        self.assertEqual(line_up(rights, line_pairs(rights, names[::-1])), ("line", rights.names[::-1]))
        ahead = line_pairs(rights, names)
        ahead[ahead.index(("bl", "bn"))] = ("bn", "bl")
        self.assertEqual(line_up(rights, ahead), ("ring", "bn", ("bl", "bm", "bn")))


class GoesRoundTest(Case):

    def test_rounds(self):
        rights = Rights(River([("a", "sea")]), [(name_of(place), "a", "a") for place in range(5)])
        ahead = [("a", "b"), ("b", "c"), ("c", "d"), ("d", "a"), ("a", "c"), ("d", "b"), ("e", "a"), ("e", "b"),
                 ("e", "c"), ("d", "e")]
        self.assertEqual(len(ahead), len(list(pairs(rights))))
        for names in [("a", "b", "c", "d"), ("b", "c", "d", "a"), ("d", "a", "b", "c"), ("a", "c", "d"),
                      ("b", "c", "d"), ("d", "e", "a", "b", "c"), ("e", "a", "c", "d")]:
            self.assertIs(goes_round(names, ahead), True)
            self.assertIs(goes_round(names[::-1], ahead), False)
            self.assertIs(goes_round(list(names), ahead), False)
            self.assertIs(goes_round(names + names, ahead), False)
            self.assertIs(goes_round(names[:2], ahead), False)
            self.assertIs(goes_round(names + names[:1], ahead), False)
        for names in ODD_VALUES + [("a", "b"), ("a", "b", "c"), ("a", "b", "b"), ("a", "b", ["c"]), ("a", "c", "zz"),
                                   (["a"], ["c"], ["d"]), (("a",), "c", "d"), (1, 2, 3), (True, None, "a"),
                                   (("a", "b"), ("b", "c"), ("c", "d"))]:
            self.assertIs(goes_round(names, ahead), False)
        self.assertIs(goes_round(names=("a", "c", "d"), ahead=[]), False)

    def test_against_the_definition(self):
        dice = random.Random(13)
        for rights in many_rights(20, 5, 6):
            ahead = some_ahead(dice, rights)
            for size in range(5):
                for names in itertools.product(rights.names, repeat=size):
                    wanted = size >= 3 and len(set(names)) == size and follows(names, ahead)
                    self.assertIs(goes_round(names, ahead), wanted)


class ShrunkTest(Case):

    def test_a_round_of_three(self):
        rights = fork_rights()
        names = ("p", "q", "sea")
        self.assertEqual(shrunk(rights, names, [("p", "q"), ("q", "sea"), ("sea", "p")]), [names])

    def test_the_rule(self):
        river = River([("a", "sea"), ("b", "a"), ("c", "b")])
        rights = Rights(river, [("u", "c", "a"), ("v", "c", "b"), ("w", "c", "b"), ("x", "c", "a"), ("y", "c", "a")])
        ahead = [("u", "v"), ("v", "w"), ("w", "x"), ("x", "y"), ("y", "u"), ("u", "w"), ("u", "x"), ("x", "v"),
                 ("v", "y"), ("y", "w")]
        self.assertEqual(shrunk(rights, ("u", "v", "w", "x", "y"), ahead), [
            ("u", "v", "w", "x", "y"), ("u", "w", "x", "y"), ("u", "x", "y")])
        self.assertEqual(shrunk(rights, ("v", "w", "x", "y", "u"), ahead), [
            ("v", "w", "x", "y", "u"), ("w", "x", "y", "u"), ("x", "y", "u")])
        back = [(other, one) if (one, other) == ("u", "w") else (one, other) for one, other in ahead]
        self.assertEqual(shrunk(rights, ("w", "x", "y", "u", "v"), back), [
            ("w", "x", "y", "u", "v"), ("u", "v", "w")])

    def test_against_the_definition(self):
        dice = random.Random(14)
        lengths = []
        for rights in many_rights(150, 6, 10):
            ahead = some_ahead(dice, rights)
            names = some_round(dice, rights, ahead) if len(rights) else None
            if names is None:
                continue
            lengths.append(len(names))
            rounds = shrunk(rights, names, ahead)
            self.assertEqual(rounds[0], names)
            self.assertEqual(len(rounds[-1]), 3)
            for one, other in zip(rounds, rounds[1:]):
                depths = [(-rights.river.depth(rights.last(name)), rights.names.index(name)) for name in one]
                place = depths.index(min(depths))
                before, behind = one[place - 1], (one + one)[place + 1]
                self.assertTrue(meet(rights, before, behind))
                if (before, behind) in ahead:
                    self.assertEqual(other, tuple(name for name in one if name != one[place]))
                else:
                    self.assertEqual(other, (before, one[place], behind))
            self.assertTrue(all(goes_round(one, ahead) for one in rounds))
        self.assertTrue({3, 4, 5, 6} <= set(lengths))

    def test_wrong_names(self):
        for value in ODD_VALUES + ["p", "zz"]:
            self.fails(NoRight(value), shrunk, fork_rights(), ("p", "q", value), [])


if __name__ == "__main__":
    unittest.main()
