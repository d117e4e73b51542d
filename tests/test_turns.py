"""turns.py: points 2.3 and 2.4."""

import itertools
import unittest

from tests.samples import Case, fork, fork_rights, long_river, many_rights
from weirkeepers.meetings import meet
from weirkeepers.removal import removal_order
from weirkeepers.rights import Rights
from weirkeepers.turns import apart, fullest, guards, turns


def are_apart(rights, names):
    return not any(meet(rights, one, other) for one, other in itertools.combinations(names, 2))


class TurnsTest(Case):

    def test_example(self):
        rights = fork_rights()
        self.assertEqual(fullest(rights), ("a", ("q", "s")))
        self.assertEqual(turns(rights), [("p", "s"), ("q", "r", "sea")])
        self.assertEqual(apart(rights), ("sea", "r", "q"))
        self.assertEqual(guards(rights), ("d", "b", "a"))

    def test_without_rights(self):
        rights = Rights(fork(), [])
        self.assertEqual((fullest(rights), turns(rights), apart(rights), guards(rights)), (("a", ()), [], (), ()))

    def test_forty_that_all_meet(self):
        river = long_river()
        rights = Rights(river, [(name, name, "sea") for name in river])
        self.assertEqual(fullest(rights), ("bn", rights.names))
        self.assertEqual(turns(rights), [(name,) for name in rights.names[::-1]])
        self.assertEqual((apart(rights), guards(rights)), (("a",), ("bn",)))

    def test_forty_that_are_apart(self):
        river = long_river()
        rights = Rights(river, [(name, name, name) for name in river])
        self.assertEqual(fullest(rights), ("a", ("a",)))
        self.assertEqual(turns(rights), [rights.names])
        self.assertEqual((apart(rights), guards(rights)), (rights.names, river.weirs))

    def test_against_the_definitions(self):
        for rights in many_rights(60):
            numbers = [len(rights.passing(weir)) for weir in rights.river]
            weir, names = fullest(rights)
            self.assertEqual(rights.river.weirs.index(weir), numbers.index(max(numbers)))
            self.assertEqual(names, rights.passing(weir))
            groups = []
            for name in [row[0] for row in removal_order(rights)][::-1]:
                free = [group for group in groups if all(not meet(rights, name, other) for other in group)]
                if not free:
                    groups.append([])
                    free = [groups[-1]]
                free[0].append(name)
            self.assertEqual(turns(rights), [tuple(name for name in rights if name in group) for group in groups])
            self.assertEqual(len(groups), max(numbers))
            self.assertTrue(all(are_apart(rights, group) for group in groups))

    def test_as_many_apart_as_guards(self):
        for rights in many_rights(40, 7, 7):
            chosen = []
            for row in removal_order(rights):
                if are_apart(rights, chosen + [row[0]]):
                    chosen.append(row[0])
            self.assertEqual(apart(rights), tuple(chosen))
            self.assertEqual(guards(rights), tuple(rights.last(name) for name in chosen))
            self.assertTrue(all(set(rights.way(name)) & set(guards(rights)) for name in rights))
            most = max(len(names) for size in range(len(rights) + 1)
                       for names in itertools.combinations(rights.names, size) if are_apart(rights, names))
            self.assertEqual(len(chosen), most)
            self.assertEqual(len(guards(rights)), most)

    def test_answers_are_new(self):
        rights = fork_rights()
        turns(rights).append(())
        self.assertEqual(len(turns(rights)), 2)


if __name__ == "__main__":
    unittest.main()
