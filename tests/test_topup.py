"""topup.py: point 3.6."""

import random
import unittest

from tests.samples import Case, fork, fork_rights, many_rights, some_cubes
from weirkeepers.rights import Rights
from weirkeepers.sharings import Sharing
from weirkeepers.springs import Springs
from weirkeepers.topup import top_up


def missing_at(springs, sharing, weir):
    use = sharing.use(weir)
    if use == 0 or springs.water(weir) >= use:
        return 0
    return use + springs.fish(weir) - springs.natural(weir)


class TopUpTest(Case):

    def test_nothing_missing(self):
        none = {"a": 0, "b": 0, "c": 0, "d": 0}
        self.assertEqual(top_up(Springs(fork(), {}, {"a": 9}), Sharing(fork_rights(), {})), (none, ()))
        springs = Springs(fork(), {"d": 3, "b": 1}, {"a": 1})
        self.assertEqual(top_up(springs, Sharing(fork_rights(), {"q": 3})), (none, ()))
        self.assertEqual(list(top_up(springs, Sharing(fork_rights(), {}))[0]), list(fork()))

    def test_one_weir(self):
        springs = Springs(fork(), {"d": 3}, {"b": 2})
        added, weirs = top_up(springs, Sharing(fork_rights(), {"r": 4}))
        self.assertEqual((added, weirs), ({"a": 0, "b": 6, "c": 0, "d": 0}, ("b",)))

    def test_weirs_below_one_another(self):
        rights = Rights(fork(), [("p", "d", "sea"), ("q", "c", "a"), ("r", "a", "a"), ("s", "b", "b")])
        sharing = Sharing(rights, {"p": 2, "q": 3, "r": 1, "s": 4})
        self.assertEqual(top_up(Springs(fork(), {}, {}), sharing), ({"a": 0, "b": 4, "c": 3, "d": 2}, ("b", "c")))
        self.assertEqual(top_up(Springs(fork(), {"c": 3}, {}), sharing), ({"a": 0, "b": 4, "c": 0, "d": 2}, ("b", "c")))
        self.assertEqual(top_up(Springs(fork(), {"c": 4}, {}), sharing), ({"a": 0, "b": 4, "c": 0, "d": 2}, ("b", "d")))
        self.assertEqual(top_up(Springs(fork(), {}, {"a": 3}), sharing), ({"a": 0, "b": 4, "c": 3, "d": 2}, ("a",)))
        self.assertEqual(top_up(Springs(fork(), {}, {"a": 9}), sharing), ({"a": 6, "b": 4, "c": 3, "d": 2}, ("a",)))

    def test_against_the_definitions(self):
        dice = random.Random(61)
        found = []
        for rights in many_rights(120, 8, 8):
            river = rights.river
            springs = Springs(river, some_cubes(dice, river, 5), some_cubes(dice, river, 6))
            sharing = Sharing(rights, some_cubes(dice, rights, 4))
            added, weirs = top_up(springs, sharing)
            self.assertEqual(list(added), list(river))
            missing = {weir: missing_at(springs, sharing, weir) for weir in river}
            above = {weir: sum(added[high] for high in river.upstream(weir) if high != weir) for weir in river}
            strict = {weir: missing[weir] != 0 and missing[weir] >= above[weir] for weir in river}
            for weir in river:
                self.assertEqual(added[weir], max(0, missing[weir] - above[weir]))
            self.assertEqual(weirs, tuple(weir for weir in river if strict[weir]
                                          and not any(strict[low] for low in river.course(weir)[1:])))
            self.assertFalse(any(river.is_down(one, other) for one in weirs for other in weirs if one != other))
            self.assertEqual(sum(missing[weir] for weir in weirs), sum(added.values()))
            more = springs + Springs(river, added, {})
            self.assertTrue(all(sharing.use(weir) <= more.water(weir) for weir in river))
            found.append(len(weirs))
        self.assertTrue({0, 1, 2} <= set(found))

    def test_answers_are_new(self):
        springs, sharing = Springs(fork(), {}, {}), Sharing(fork_rights(), {"r": 4})
        top_up(springs, sharing)[0]["b"] = 0
        self.assertEqual(top_up(springs, sharing)[0]["b"], 4)


if __name__ == "__main__":
    unittest.main()
