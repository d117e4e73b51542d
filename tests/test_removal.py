"""removal.py: points 2.2, 2.3 and 2.9."""

import itertools
import unittest

from tests.samples import Case, ODD_VALUES, fork, fork_rights, long_river, many_rights
from weirkeepers.errors import NoRight
from weirkeepers.meetings import common, meet
from weirkeepers.removal import crowds, removal_fault, removal_order
from weirkeepers.rights import Rights
from weirkeepers.rivers import River


def fault_by_the_words(rights, names):
    for place, name in enumerate(names):
        group = [name] + [other for other in names[place + 1:] if meet(rights, name, other)]
        if not any(all(rights.passes(one, weir) for one in group) for weir in rights.river):
            return place
    return None


class RemovalTest(Case):

    def test_order(self):
        self.assertEqual(removal_order(fork_rights()), [
            ("sea", "d", ("p",)), ("p", "c", ("q",)), ("r", "b", ("s",)), ("q", "a", ("s",)), ("s", "a", ())])
        self.assertEqual(removal_order(Rights(fork(), [])), [])

    def test_order_against_the_definition(self):
        for rights in many_rights(60):
            order = removal_order(rights)
            names = [row[0] for row in order]
            depths = [(-rights.river.depth(rights.last(name)), rights.names.index(name)) for name in names]
            self.assertEqual(depths, sorted(depths))
            self.assertEqual(sorted(names), sorted(rights.names))
            for place, (name, weir, later) in enumerate(order):
                self.assertEqual(weir, rights.last(name))
                self.assertEqual(later, tuple(other for other in rights
                                              if other in names[place + 1:] and meet(rights, name, other)))
                self.assertTrue(all(rights.passes(other, weir) for other in later))
            self.assertIsNone(removal_fault(rights, names))

    def test_fault(self):
        rights = Rights(fork(), [("x", "d", "d"), ("y", "d", "a"), ("z", "a", "a"), ("v", "b", "sea")])
        self.assertEqual(removal_fault(rights, ["y", "x", "z"]), 0)
        self.assertEqual(removal_fault(rights, ["v", "y", "x", "z"]), 1)
        self.assertIsNone(removal_fault(rights, ["x", "y", "z"]))
        self.assertIsNone(removal_fault(rights, []))
        self.assertIsNone(removal_fault(rights, ["y"]))

    def test_fault_against_the_definition(self):
        found = {}
        for rights in many_rights(60, 6, 5):
            for size in range(len(rights) + 1):
                for names in itertools.permutations(rights.names, size):
                    place = removal_fault(rights, list(names))
                    self.assertEqual(place, fault_by_the_words(rights, list(names)))
                    found[place] = True
        self.assertTrue({None, 0, 1, 2} <= set(found))

    def test_names_must_be_different_and_known(self):
        rights = fork_rights()
        for value in ODD_VALUES + ["a", "zz", "p"]:
            self.fails(NoRight(value), removal_fault, rights, ["p", "q", value, "nobody"])
        names = ["q", "p"]
        removal_fault(rights, names)
        self.assertEqual(names, ["q", "p"])


class CrowdsTest(Case):

    def test_crowds(self):
        self.assertEqual(crowds(fork_rights()),
                         [("a", ("q", "s")), ("b", ("r", "s")), ("c", ("p", "q")), ("d", ("p", "sea"))])
        self.assertEqual(crowds(Rights(fork(), [])), [])

    def test_lesser_and_later_crowds_are_left_out(self):
        river = River([("a", "sea"), ("b", "a"), ("c", "b"), ("d", "c")])
        rights = Rights(river, [("x", "d", "a"), ("y", "c", "b")])
        self.assertEqual(crowds(rights), [("b", ("x", "y"))])
        upward = Rights(River(river.rows()[::-1]), rights.rows())
        self.assertEqual(crowds(upward), [("c", ("x", "y"))])

    def test_against_the_definition(self):
        for rights in many_rights(60):
            told = []
            for place, weir in enumerate(rights.river):
                here = set(rights.passing(weir))
                wider = any(here < set(rights.passing(other)) for other in rights.river)
                before = any(here == set(rights.passing(other)) for other in rights.river.weirs[:place])
                if here and not wider and not before:
                    told.append((weir, rights.passing(weir)))
            self.assertEqual(crowds(rights), told)
            for size in range(1, 4):
                for names in itertools.combinations(rights.names, size):
                    if all(meet(rights, one, other) for one, other in itertools.combinations(names, 2)):
                        self.assertTrue(any(set(names) <= set(crowd) for _, crowd in told))

    def test_forty(self):
        river = long_river()
        rights = Rights(river, [(name, name, "sea") for name in river])
        self.assertEqual(crowds(rights), [("bn", rights.names)])
        self.assertEqual(common(rights, list(rights.names)), ("bn",))


if __name__ == "__main__":
    unittest.main()
