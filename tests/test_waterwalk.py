"""waterwalk.py: point 3.5."""

import random
import unittest

from tests.samples import Case, fork, many_rights, some_cubes
from weirkeepers.days import Day
from weirkeepers.rights import Rights
from weirkeepers.sharings import Sharing, unfit
from weirkeepers.springs import Springs
from weirkeepers.waterwalk import water_walk


class WaterWalkTest(Case):

    def test_what_is_given_back_and_what_is_not(self):
        rights = Rights(fork(), [("p", "d", "c"), ("q", "c", "sea"), ("r", "b", "b"), ("s", "b", "a"), ("t", "a", "a")])
        sharing = Sharing(rights, {"p": 2, "q": 1, "r": 3, "s": 1, "t": 5})
        springs = Springs(fork(), {"d": 4, "b": 5, "a": 1}, {"a": 3})
        self.assertEqual(list(water_walk(springs, sharing)), [
            ("d", 4, 2, 2, 0), ("b", 5, 4, 1, 3), ("c", 2, 1, 1, 2), ("a", 8, 5, 3, 6)])

    def test_below_zero(self):
        rights = Rights(fork(), [("p", "d", "d"), ("q", "d", "sea")])
        sharing = Sharing(rights, {"p": 2, "q": 9})
        walk = water_walk(Springs(fork(), {"c": 1}, {}), sharing)
        self.assertEqual(list(walk), [
            ("d", 0, 11, -11, 2), ("b", 0, 0, 0, 0), ("c", -8, 0, -8, 0), ("a", -8, 0, -8, 0)])

    def test_against_the_definitions(self):
        dice = random.Random(51)
        fitting = 0
        for rights in many_rights(80, 6, 6):
            river = rights.river
            springs = Springs(river, some_cubes(dice, river, 9), some_cubes(dice, river, 6))
            sharing = Sharing(rights, some_cubes(dice, rights, 3))
            rows = list(water_walk(springs, sharing))
            self.assertEqual([row[0] for row in rows], list(river.downward()))
            runs = {row[0]: row[3] for row in rows}
            back = {row[0]: row[4] for row in rows}
            for weir, comes, taken, runs_by, given in rows:
                self.assertEqual(comes, springs.spring(weir) + sum(runs[high] + back[high]
                                                                   for high in river.above(weir)))
                self.assertEqual(taken, sum(sharing[row[0]] for row in rights.rows() if row[1] == weir))
                self.assertEqual(given, sum(sharing[row[0]] for row in rights.rows() if row[2] == weir))
                self.assertEqual(runs_by, comes - taken)
                self.assertEqual(runs_by, springs.natural(weir) - sharing.use(weir))
            day = Day.of(rights, sharing.cubes(), springs)
            enough = all(runs[weir] >= min(springs.fish(weir), springs.natural(weir)) for weir in river)
            self.assertIs(enough, unfit(day, sharing) is None)
            fitting += enough
        self.assertTrue(5 < fitting < 75)


if __name__ == "__main__":
    unittest.main()
