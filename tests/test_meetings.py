"""meetings.py: points 2.1 and 2.9."""

import itertools
import unittest

from tests.samples import Case, ODD_VALUES, fork, fork_rights, many_rights
from weirkeepers.errors import NoRight
from weirkeepers.meetings import common, meet, met_by, pairs
from weirkeepers.rights import Rights


class MeetingsTest(Case):

    def test_meet(self):
        rights = fork_rights()
        self.assertEqual(meet(rights, "p", "q"), ("c",))
        self.assertEqual(meet(rights, "q", "s"), ("a",))
        self.assertEqual(meet(rights, "p", "r"), ())
        self.assertEqual(meet(rights, "p", "p"), ("d", "c"))
        self.assertEqual(meet(rights, "r", "s"), ("b",))

    def test_met_by(self):
        rights = fork_rights()
        self.assertEqual([met_by(rights, name) for name in rights],
                         [("q", "sea"), ("p", "s"), ("s",), ("q", "r"), ("p",)])

    def test_common(self):
        rights = fork_rights()
        self.assertEqual(common(rights, []), ("a", "b", "c", "d"))
        self.assertEqual(common(rights, ["p"]), ("d", "c"))
        self.assertEqual(common(rights, ["p", "p"]), ("d", "c"))
        self.assertEqual(common(rights, ["q", "p", "q"]), ("c",))
        self.assertEqual(common(rights, ["p", "r"]), ())
        self.assertEqual(common(Rights(fork(), []), []), ("a", "b", "c", "d"))

    def test_pairs(self):
        rights = fork_rights()
        self.assertEqual(list(pairs(rights)), [("p", "q", "c"), ("p", "sea", "d"), ("q", "s", "a"), ("r", "s", "b")])
        self.assertEqual(list(pairs(Rights(fork(), []))), [])

    def test_unknown_names(self):
        rights = fork_rights()
        for value in ODD_VALUES + ["d", "zz"]:
            self.fails(NoRight(value), meet, rights, value, "nobody")
            self.fails(NoRight(value), meet, rights, "p", value)
            self.fails(NoRight(value), met_by, rights, value)
            self.fails(NoRight(value), met_by, Rights(fork(), []), value)
            self.fails(NoRight(value), common, rights, ["p", "p", value, "nobody"])

    def test_against_the_definitions(self):
        for rights in many_rights(60):
            names = rights.names
            told = []
            for one, other in itertools.product(names, names):
                both = tuple(weir for weir in rights.way(one) if rights.passes(other, weir))
                self.assertEqual(meet(rights, one, other), both)
                self.assertIs(other in met_by(rights, one), one != other and bool(both))
                self.assertEqual(common(rights, [one, other]), both)
                if both and names.index(one) < names.index(other):
                    told.append((one, other, both[0]))
            self.assertEqual(list(pairs(rights)), told)

    def test_rights_that_meet_two_by_two_pass_one_weir(self):
        for rights in many_rights(30, 8, 7):
            for size in range(1, 5):
                for names in itertools.combinations(rights.names, size):
                    if all(meet(rights, one, other) for one, other in itertools.combinations(names, 2)):
                        lasts = [rights.last(name) for name in names]
                        deepest = max(lasts, key=rights.river.depth)
                        self.assertIn(deepest, common(rights, list(names)))

    def test_arguments_are_not_changed(self):
        names = ["q", "p"]
        common(fork_rights(), names)
        self.assertEqual(names, ["q", "p"])


if __name__ == "__main__":
    unittest.main()
