"""charts.py: point 1.7, and the texts of 0.4."""

import unittest

from tests.samples import Case, fork, fork_rights, long_river, many_rights, name_of
from weirkeepers.charts import chart_table, read_chart, write_chart
from weirkeepers.errors import NotRights, NotRiver, NotText
from weirkeepers.rights import Rights
from weirkeepers.rivers import River

CHART = """weir a sea
weir b a
weir c a
weir d c
right p d c
right q c sea
right r b b
right s b a
right sea d d"""


class ChartTest(Case):

    def test_written_sign_by_sign(self):
        self.assertEqual(write_chart(fork_rights()), CHART)
        self.assertEqual(write_chart(Rights(River([("w", "sea")]), [])), "weir w sea")

    def test_read_back(self):
        self.assertEqual(read_chart(CHART), fork_rights())
        for rights in many_rights(40):
            self.assertEqual(read_chart(text=write_chart(rights)), rights)

    def test_lines_in_any_order(self):
        text = "right p d c\nweir d c\nright q c sea\nweir c sea"
        rights = read_chart(text)
        self.assertEqual(rights.river.rows(), [("d", "c"), ("c", "sea")])
        self.assertEqual(rights.rows(), [("p", "d", "c"), ("q", "c", "sea")])

    def test_wrong_lines(self):
        for line in ["", " ", "weir", "weir a", "weir a sea x", "weir  a sea", "weir a  sea", " weir a sea",
                     "weir a sea ", "Weir a sea", "weir A sea", "weir a SEA", "weir a1 sea", "weir abcdefghi sea",
                     "right", "right p a", "right p a a a", "right p  a", "right p a ", "right  p a a", "call p a",
                     "right p a A", "right p 1 a", "river a sea", "weir:a sea", "right a b"]:
            self.fails(NotText(0), read_chart, line)
            self.fails(NotText(1), read_chart, "weir a sea\n" + line + "\n" + line)
            self.fails(NotText(9), read_chart, CHART + "\n" + line)

    def test_a_wrong_line_comes_before_a_wrong_river_and_this_before_wrong_rights(self):
        self.fails(NotText(2), read_chart, "weir a b\nright p x y\nweir a")
        self.fails(NotRiver(1), read_chart, "right p x y\nweir a sea\nright p p p\nweir a sea")
        self.fails(NotRiver(0), read_chart, "right p x y\nweir a b")
        self.fails(NotRiver(-1), read_chart, "right p x y")
        self.fails(NotRiver(1), read_chart, "weir a sea\nweir sea a")
        self.fails(NotRiver(-1), read_chart, "\n".join(f"weir {name_of(place)} sea" for place in range(41)))
        self.fails(NotRights(1), read_chart, "right p a a\nweir a sea\nright p a a")
        self.fails(NotRights(0), read_chart, "right p a b\nweir a sea\nweir b a")
        rows = "\n".join(f"right {name_of(place)} a a" for place in range(41))
        self.fails(NotRights(-1), read_chart, "weir a sea\n" + rows)

    def test_a_right_may_be_called_sea(self):
        rights = read_chart("weir a sea\nright sea a sea\nright a a a")
        self.assertEqual(rights.names, ("sea", "a"))


class TableTest(Case):

    def test_sign_by_sign(self):
        lines = [
            "                a        b        c        d",
            "p               -        -      out       in",
            "q             out        -       in        -",
            "r               -     both        -        -",
            "s             out       in        -        -",
            "sea             -        -        -     both",
        ]
        self.assertEqual(chart_table(fork_rights()), "\n".join(lines))

    def test_by_and_long_names(self):
        river = River([("abcdefgh", "sea"), ("b", "abcdefgh"), ("c", "b")])
        rights = Rights(river, [("stuvwxyz", "c", "sea")])
        self.assertEqual(chart_table(rights),
                         "         abcdefgh        b        c\nstuvwxyz      out       by       in")

    def test_without_rights(self):
        self.assertEqual(chart_table(Rights(fork(), [])), "                a        b        c        d")

    def test_forty_weirs(self):
        river = long_river()
        text = chart_table(Rights(river, [("x", "a", "sea")]))
        self.assertEqual([len(line) for line in text.split("\n")], [8 + 9 * 40] * 2)
        self.assertEqual(text.split("\n")[1].split(), ["x", "in"] + ["by"] * 38 + ["out"])


if __name__ == "__main__":
    unittest.main()
