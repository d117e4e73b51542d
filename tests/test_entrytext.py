"""entrytext.py: points 10.7 and 0.4."""

import random
import unittest

from tests.samples import Case, fork_rights
from weirkeepers.entries import CallTold, FishOrder, Pledge, Release, SpringRead
from weirkeepers.entrytext import read_entries, write_entries
from weirkeepers.errors import NotText
from weirkeepers.gauges import Gauges
from weirkeepers.tanks import Tanks

LINES = ["spring low 45 on 3 known 12 number 7", "fish low 0 on 3 known 0 number 7", "call a 45 on 3 known 0 number 0",
         "release a 45 on 3 known 3 number 1000000", "pledge a b on 11 known 2 number 7",
         "pledge a b at low on 11 known 2 number 7"]
ENTRIES = [SpringRead(3, 12, 7, "low", 45), FishOrder(3, 0, 7, "low", 0), CallTold(3, 0, 0, "a", 45),
           Release(3, 3, 10 ** 6, "a", 45), Pledge(11, 2, 7, "a", "b"), Pledge(11, 2, 7, "a", "b", "low")]


class ReadTest(Case):

    def test_each_kind_of_line(self):
        self.assertEqual(read_entries("\n".join(LINES)), ENTRIES)
        for line, entry in zip(LINES, ENTRIES):
            found = read_entries(text=line)
            self.assertEqual((found, found[0].__class__), ([entry], entry.__class__))
        self.assertEqual(read_entries("\n".join(LINES[:1] * 3)), ENTRIES[:1] * 3)
        self.assertEqual(read_entries("pledge at at at at on 0 known 0 number 0"), [Pledge(0, 0, 0, "at", "at", "at")])
        self.assertEqual(read_entries("call on 1 on 0 known 0 number 0"), [CallTold(0, 0, 0, "on", 1)])

    def test_wrong_words(self):
        for line in LINES:
            words = line.split(" ")
            for place in range(len(words)):
                for word in ["", "A", "zz1", "-1", "00", "1.0"]:
                    self.wrong(" ".join(words[:place] + [word] + words[place + 1:]))
                self.wrong(" ".join(words[:place] + words[place + 1:]))
                self.wrong(" ".join(words[:place] + ["a"] + words[place:]))
            for text in [" " + line, line + " ", line.replace(" ", "  ", 1), line.replace(" on ", " upon "),
                         line.replace("known", "know"), line.replace("number", "numbers"), line.upper(),
                         line.replace(" on ", " at "), line + " number 1", line + " at low"]:
                self.wrong(text)
        for text in ["pledge a b to low on 11 known 2 number 7", "pledge a on 11 known 2 number 7", "a", "call",
                     "pledge a b at on 11 known 2 number 7", "spring low on 3 known 12 number 7",
                     "promise a b on 11 known 2 number 7", "pledge a b c on 11 known 2 number 7",
                     "on 11 known 2 number 7", "pledge on 11 known 2 number 7", "call a b on 3 known 0 number 0"]:
            self.wrong(text)

    def wrong(self, line):
        """The line is wrong, alone and behind a line that is right."""
        self.fails(NotText(0), read_entries, line)
        self.fails(NotText(1), read_entries, LINES[0] + "\n" + line + "\nzz")

    def test_wrong_numerals(self):
        for number in ["01", "1" * 32, "+1", "1_0", "x", "12", "10" * 3]:
            self.wrong(f"call a 1 on {number} known 0 number 0")
        for number in ["00", "100", "1" * 31]:
            self.wrong(f"call a 1 on 0 known {number} number 0")
        for number in ["01", "1000001", "1" * 32]:
            self.wrong(f"call a 1 on 0 known 0 number {number}")
        for number in ["1" + "0" * 27 + "1" + "0", "1" + "0" * 29, "1" * 31, "1" * 32, "00", "01", "-1", "1.5"]:
            self.wrong(f"call a {number} on 0 known 0 number 0")
        self.assertEqual(read_entries("call a 1" + "0" * 28 + " on 0 known 0 number 0")[0].amount, 10 ** 28)

    def test_what_the_class_refuses(self):
        for line in ["spring low 1 on 3 known 2 number 0", "release a 1 on 11 known 10 number 0",
                     "call abcdefghi 1 on 0 known 0 number 0", "pledge a abcdefghi on 0 known 0 number 0",
                     "pledge a b at low1 on 0 known 0 number 0", "pledge A b on 0 known 0 number 0"]:
            self.wrong(line)

    def test_empty_lines(self):
        self.fails(NotText(0), read_entries, "")
        self.fails(NotText(0), read_entries, "\n" + LINES[0])
        self.fails(NotText(1), read_entries, LINES[0] + "\n")
        self.fails(NotText(1), read_entries, LINES[0] + "\n\n" + LINES[0])
        self.fails(NotText(2), read_entries, "\n".join(LINES[:2] + [" "]))


class WriteTest(Case):

    def test_in_their_order(self):
        self.assertEqual(write_entries(ENTRIES), "\n".join(LINES))
        self.assertEqual(write_entries(entries=tuple(ENTRIES[::-1])), "\n".join(LINES[::-1]))
        self.assertEqual((write_entries([]), write_entries(())), ("", ""))

    def test_gauges(self):
        tanks = Tanks(fork_rights(), {"q": 3})
        gauges = Gauges(tanks, CallTold(1, 0, 0, "p", 3), SpringRead(0, 0, 0, "d", 5), Release(0, 0, 0, "q", 1))
        self.assertEqual(write_entries(gauges), "spring d 5 on 0 known 0 number 0\nrelease q 1 on 0 known 0 number 0"
                                                "\ncall p 3 on 1 known 0 number 0")
        self.assertEqual(write_entries(Gauges(tanks)), "")

    def test_what_was_written_reads_back(self):
        dice = random.Random(3)
        entries = []
        for _ in range(300):
            day, number = dice.randint(0, 11), dice.choice([0, 1, 10 ** 6])
            kind = dice.choice([SpringRead, FishOrder, CallTold, Release])
            names = dice.sample(["a", "on", "known", "number", "at", "abcdefgh", "sea"], 3)
            entries.append(kind(day, dice.randint(day, 99), number, names[0], dice.choice([0, 1, 10 ** 28])))
            entries.append(Pledge(day, dice.randint(0, 99), number, *names[:dice.randint(2, 3)]))
        passed = list(entries)
        self.assertEqual(read_entries(write_entries(entries)), passed)
        self.assertEqual(entries, passed)


if __name__ == "__main__":
    unittest.main()
