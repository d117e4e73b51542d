"""daytext.py: point 3.7, and the texts and numerals of 0.4."""

import random
import unittest

from tests.samples import Case, fork, fork_rights, many_rights, some_cubes
from weirkeepers.checks import is_numeral
from weirkeepers.days import Day
from weirkeepers.daytext import read_day, write_day
from weirkeepers.errors import NotText
from weirkeepers.rights import Rights

MOST = 10 ** 30


class DayTextTest(Case):

    def test_written_sign_by_sign(self):
        day = Day(fork_rights(), {"p": 1, "q": MOST, "sea": 7}, {"d": 3, "a": 12})
        self.assertEqual(write_day(day), "\n".join([
            "call p 1", f"call q {MOST}", "call r 0", "call s 0", "call sea 7",
            "water a 12", "water b 0", "water c 0", "water d 3"]))
        self.assertEqual(write_day(Day(Rights(fork(), []), {}, {})), "water a 0\nwater b 0\nwater c 0\nwater d 0")

    def test_read_back(self):
        dice = random.Random(71)
        for rights in many_rights(40):
            day = Day(rights, some_cubes(dice, rights, MOST), some_cubes(dice, rights.river, MOST))
            self.assertEqual(read_day(rights, write_day(day)), day)
            lines = write_day(day).split("\n")
            dice.shuffle(lines)
            self.assertEqual(read_day(rights=rights, text="\n".join(lines)), day)

    def test_lines_in_any_order_and_lines_left_out(self):
        day = read_day(fork_rights(), "water d 3\ncall sea 10\nwater a 0\ncall p 1")
        self.assertEqual(day, Day(fork_rights(), {"p": 1, "sea": 10}, {"d": 3}))
        self.assertEqual(read_day(fork_rights(), "water a 5"), Day(fork_rights(), {}, {"a": 5}))

    def test_a_right_and_a_weir_of_one_name(self):
        rights = Rights(fork(), [("a", "d", "sea")])
        self.assertEqual(read_day(rights, "call a 1\nwater a 2"), Day(rights, {"a": 1}, {"a": 2}))

    def test_wrong_lines(self):
        for line in ["", " ", "call", "call p", "call p ", "call p 1 ", " call p 1", "call  p 1", "call p  1",
                     "call p 1 2", "Call p 1", "calls p 1", "weir a 1", "call a 1", "call zz 1", "call P 1",
                     "water p 1", "water sea 1", "water e 1", "water A 1", "call p x", "call p -1", "call p +1",
                     "call p 01", "call p 00", "call p 1.0", "call p 1_0", "call p 1e3", f"call p {MOST + 1}",
                     "call p " + "9" * 31, "call p " + "1" * 32, f"water a {MOST + 1}", "water a 0x1", "call p one",
                     "call q 4", "call q 5", "water b 6", "water b 7"]:
            text = f"call q 4\nwater b 6\n{line}\n{line}\ncall s 1"
            self.fails(NotText(2), read_day, fork_rights(), text)
        for line in ["", "call a 1", "call p 01", "water sea 0"]:
            self.fails(NotText(0), read_day, fork_rights(), line)
            self.fails(NotText(1), read_day, fork_rights(), f"call p 1\n{line}")

    def test_the_greatest_number(self):
        self.assertEqual(read_day(fork_rights(), f"call p {MOST}\nwater a {MOST}").call("p"), MOST)
        self.assertEqual(read_day(fork_rights(), "call p 0").call("p"), 0)

    def test_numerals(self):
        for word in ["0", "1", "9", "10", "9" * 31, "1" + "0" * 30]:
            self.assertIs(is_numeral(word), True)
        for word in ["", "00", "01", "-1", "+1", " 1", "1 ", "1" * 32, "0" * 31, "a", "1a", "/", ":"]:
            self.assertIs(is_numeral(word), False)


if __name__ == "__main__":
    unittest.main()
