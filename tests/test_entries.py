"""entries.py: points 10.3 and 10.7."""

import itertools
import unittest

from tests.samples import Case, ODD_VALUES
from weirkeepers.entries import CallTold, Entry, FishOrder, Pledge, Release, SpringRead
from weirkeepers.errors import NotEntry
from weirkeepers.promises import Promise

KINDS = {SpringRead: "spring", FishOrder: "fish", CallTold: "call", Release: "release"}
NO_NUMBERS = [None, True, False, -1, "1", "", [], (), (1,), 10 ** 39]
NO_NAMES = [None, True, 0, 1, "", "A", "a b", "a1", "nineabcde", [], ["a"], (), ("a",), "a\n"]


class EntryTest(Case):

    def test_kinds_and_attributes(self):
        for kind, word in KINDS.items():
            entry = kind(11, 99, 10 ** 6, "abcdefgh", 10 ** 28)
            self.assertEqual((entry.day, entry.known, entry.number, entry.name, entry.amount, entry.KIND, kind.KIND),
                             (11, 99, 10 ** 6, "abcdefgh", 10 ** 28, word, word))
            self.assertIsInstance(entry, Entry)
            entry = kind(amount=0, name="sea", number=0, known=0, day=0)
            self.assertEqual((entry.day, entry.known, entry.number, entry.name, entry.amount), (0, 0, 0, "sea", 0))
        pledge = Pledge(taker="b", giver="a", number=3, known=0, day=11)
        self.assertEqual((pledge.day, pledge.known, pledge.number, pledge.giver, pledge.taker, pledge.weir),
                         (11, 0, 3, "a", "b", None))
        self.assertEqual((Pledge.KIND, Pledge(0, 0, 0, "a", "a", "sea").weir), ("pledge", "sea"))
        self.assertIsInstance(pledge, Entry)

    def test_each_wrong_parameter(self):
        for kind in KINDS:
            for value in NO_NUMBERS + [12]:
                self.fails(NotEntry("day"), kind, value, None, None, None, None)
            for value in NO_NUMBERS + [100]:
                self.fails(NotEntry("known"), kind, 0, value, None, None, None)
            for value in NO_NUMBERS + [10 ** 6 + 1]:
                self.fails(NotEntry("number"), kind, 0, 0, value, None, None)
            for value in NO_NAMES:
                self.fails(NotEntry("name"), kind, 0, 0, 0, value, None)
            for value in NO_NUMBERS + [10 ** 28 + 1]:
                self.fails(NotEntry("amount"), kind, 0, 0, 0, "a", value)

    def test_each_wrong_parameter_of_a_pledge(self):
        for value in NO_NUMBERS + [12]:
            self.fails(NotEntry("day"), Pledge, value, None, None, None, None, 0)
        for value in NO_NUMBERS + [100]:
            self.fails(NotEntry("known"), Pledge, 0, value, None, None, None, 0)
        for value in NO_NUMBERS + [10 ** 6 + 1]:
            self.fails(NotEntry("number"), Pledge, 0, 0, value, None, None, 0)
        for value in NO_NAMES:
            self.fails(NotEntry("giver"), Pledge, 0, 0, 0, value, None, 0)
            self.fails(NotEntry("taker"), Pledge, 0, 0, 0, "a", value, 0)
            if value is not None:
                self.fails(NotEntry("weir"), Pledge, 0, 0, 0, "a", "b", value)

    def test_known_too_early(self):
        for kind in (SpringRead, Release):
            self.assertEqual(kind(5, 5, 0, "a", 1).known, 5)
            self.fails(NotEntry("known"), kind, 5, 4, None, None, None)
            self.fails(NotEntry("known"), kind, 11, 0, 0, "a", 1)
            self.fails(NotEntry("day"), kind, 12, 0, 0, "a", 1)
        for kind in (FishOrder, CallTold):
            self.assertEqual(kind(11, 0, 0, "a", 1).known, 0)
        self.assertEqual(Pledge(11, 0, 0, "a", "b").known, 0)

    def test_texts(self):
        self.assertEqual([kind(3, 12, 7, "low", 45).text() for kind in KINDS], [
            "spring low 45 on 3 known 12 number 7", "fish low 45 on 3 known 12 number 7",
            "call low 45 on 3 known 12 number 7", "release low 45 on 3 known 12 number 7"])
        self.assertEqual(Pledge(0, 0, 0, "a", "b").text(), "pledge a b on 0 known 0 number 0")
        self.assertEqual(Pledge(11, 2, 10 ** 6, "a", "b", "w").text(), "pledge a b at w on 11 known 2 number 1000000")
        self.assertEqual(CallTold(0, 0, 0, "a", 10 ** 28).text(), "call a 1" + "0" * 28 + " on 0 known 0 number 0")

    def test_promises(self):
        self.assertEqual(Pledge(1, 2, 3, "a", "b").promise(), Promise("a", "b"))
        self.assertEqual(Pledge(1, 2, 3, "a", "b", "w").promise(), Promise("a", "b", "w"))

    def test_equality_by_class_and_attributes(self):
        rows = [kind(1, 2, 3, "a", 4) for kind in KINDS] + [Pledge(1, 2, 3, "a", "b"), Pledge(1, 2, 3, "a", "b", "w")]
        twins = [kind(1, 2, 3, "a", 4) for kind in KINDS] + [Pledge(1, 2, 3, "a", "b"), Pledge(1, 2, 3, "a", "b", "w")]
        for place, entry in enumerate(rows):
            self.assertEqual(entry, twins[place])
            self.equals_nothing_else(entry, *(rows[:place] + rows[place + 1:] + [entry.text()]))
        for kind in KINDS:
            values = [1, 2, 3, "a", 4]
            others = [[0, 2, 3, "a", 4], [1, 3, 3, "a", 4], [1, 2, 4, "a", 4], [1, 2, 3, "b", 4], [1, 2, 3, "a", 5]]
            self.equals_nothing_else(kind(*values), *[kind(*row) for row in others])
        values = [1, 2, 3, "a", "b", "w"]
        others = [[0, 2, 3, "a", "b", "w"], [1, 3, 3, "a", "b", "w"], [1, 2, 4, "a", "b", "w"],
                  [1, 2, 3, "b", "b", "w"], [1, 2, 3, "a", "a", "w"], [1, 2, 3, "a", "b", "x"]]
        self.equals_nothing_else(Pledge(*values), *[Pledge(*row) for row in others])
        for one, other in itertools.combinations(rows, 2):
            self.assertTrue(one != other and other != one)

    def test_odd_values_are_no_parameters(self):
        for value in ODD_VALUES:
            for kind in KINDS:
                if value not in (0, 1) or isinstance(value, bool):
                    self.fails(NotEntry("day"), kind, value, 0, 0, "a", 0)


if __name__ == "__main__":
    unittest.main()
