"""tanks.py: point 10.2."""

import unittest

from tests.samples import Case, ODD_VALUES, fork_rights, one_weir
from weirkeepers.errors import NoRight, NotLedger, NotTanks
from weirkeepers.rights import Rights
from weirkeepers.rivers import River
from weirkeepers.tanks import Tanks

MOST = 10 ** 20


def three():
    """Rights over one weir: b and c may have tanks, d is given back."""
    return Rights(River([("w", "sea")]), [("d", "w", "w"), ("c", "w", "sea"), ("b", "w", "sea")])


class TanksTest(Case):

    def test_names_in_the_order_of_rights(self):
        tanks = Tanks(rooms={"b": 5, "c": MOST}, rights=three())
        self.assertEqual((tanks.rights, tanks.names, len(tanks)), (three(), ("c", "b"), 2))
        self.assertEqual([tanks.room(name) for name in "bcd"], [5, MOST, 0])
        self.assertEqual(Tanks(fork_rights(), {"q": 1}).names, ("q",))

    def test_the_first_wrong_key_in_the_order_of_the_dict(self):
        for key in [None, True, 0, "", "w", "sea", "zz", ("b",), (None, 1)]:
            self.fails(NotTanks(key), Tanks, three(), {"c": 1, key: 1, "d": 1, "b": 0})
        for rooms, wrong in [({"d": 1, "zz": 1}, "d"), ({"zz": 1, "d": 1}, "zz"), ({"b": 1, "d": 0}, "d")]:
            self.fails(NotTanks(wrong), Tanks, three(), rooms)
        for value in [None, True, False, 0, -1, MOST + 1, "1", (), [], 10 ** 39]:
            self.fails(NotTanks("b"), Tanks, three(), {"c": 1, "b": value, "d": 1})
        for name in ["p", "r", "s", "sea"]:
            self.fails(NotTanks(name), Tanks, fork_rights(), {name: 1})

    def test_in_with_any_value(self):
        tanks = Tanks(three(), {"b": 5})
        self.assertTrue("b" in tanks)
        for value in ODD_VALUES + ["c", "d", "w"]:
            self.assertFalse(value in tanks)

    def test_left(self):
        tanks = Tanks(three(), {"b": 5, "c": MOST})
        self.assertEqual([tanks.left("b", account) for account in (0, 5, -2)], [5, 0, 7])
        self.assertEqual(tanks.left(released=10 ** 28, account=3, name="b"), 2 + 10 ** 28)
        self.assertEqual(tanks.left("c", -10 ** 29, 1), MOST + 10 ** 29 + 1)
        self.fails(NotLedger(-1, "tank"), tanks.left, "d", 0)
        for value in ODD_VALUES + ["w"]:
            self.fails(NoRight(value), tanks.left, value, 0)
            self.fails(NoRight(value), tanks.room, value)

    def test_none(self):
        tanks = Tanks.none(three())
        self.assertIsInstance(tanks, Tanks)
        self.assertEqual((tanks.names, len(tanks), tanks.room("b"), "b" in tanks), ((), 0, 0, False))
        self.assertEqual(tanks, Tanks(three(), {}))
        self.fails(NotLedger(-1, "tank"), tanks.left, "b", 0)
        self.assertEqual(Tanks.none(rights=one_weir()).names, ())

    def test_equality(self):
        tanks = Tanks(three(), {"b": 5, "c": 6})
        self.assertEqual(tanks, Tanks(three(), {"c": 6, "b": 5}))
        turned = Rights(three().river, three().rows()[::-1])
        self.equals_nothing_else(tanks, Tanks(three(), {"b": 5}), Tanks(three(), {"b": 5, "c": 5}),
                                 Tanks(turned, {"b": 5, "c": 6}), {"b": 5, "c": 6})

    def test_a_later_change_of_the_argument(self):
        rooms = {"b": 5, "c": 6}
        tanks = Tanks(three(), rooms)
        self.assertEqual(rooms, {"b": 5, "c": 6})
        rooms["b"] = 9
        del rooms["c"]
        self.assertEqual((tanks.room("b"), tanks.names), (5, ("c", "b")))


if __name__ == "__main__":
    unittest.main()
