"""rights.py: points 1.4 to 1.6, and the rules of 0.3 and 0.4."""

import unittest

from tests.samples import Case, ODD_VALUES, fork, fork_rights, long_river, many_rights, name_of
from weirkeepers.errors import NoRight, NotRights, NoWeir
from weirkeepers.rights import Rights
from weirkeepers.rivers import River


class WrongRightsTest(Case):
    """[1.6]: the place of wrong rows."""

    def test_no_list_or_too_long(self):
        rows = [(name_of(number), "a", "a") for number in range(41)]
        for value in [None, False, 1, "a", (), (("p", "a", "a"),), rows, [None] * 41]:
            self.fails(NotRights(-1), Rights, fork(), value)
        self.assertEqual(len(Rights(fork(), rows[:40])), 40)

    def test_wrong_by_itself(self):
        good = ("p", "d", "sea")
        for value in [None, 1, "qda", ["q", "d", "a"], ("q", "d"), ("q", "d", "a", "a"), (), ("", "d", "a"),
                      ("Q", "d", "a"), (None, "d", "a"), (["q"], "d", "a"), ("p", "d", "a"), ("q", "e", "a"),
                      ("q", "sea", "sea"), ("q", None, "a"), ("q", ["d"], "a"), ("q", "d", "e"), ("q", "d", None),
                      ("q", "d", ["a"]), ("q", "d", ""), ("q", True, "a"), ("abcdefghi", "d", "a")]:
            self.fails(NotRights(1), Rights, fork(), [good, value])
            self.fails(NotRights(2), Rights, fork(), [good, ("r", "a", "d"), value, value])

    def test_last_weir_not_in_the_course(self):
        self.fails(NotRights(1), Rights, fork(), [("p", "d", "a"), ("q", "a", "d"), ("r", "b", "c")])
        self.fails(NotRights(0), Rights, fork(), [("q", "b", "c")])


class RightsTest(Case):
    """[1.4], [1.5]."""

    def test_none_at_all(self):
        rights = Rights(fork(), [])
        self.assertEqual((rights.names, len(rights), list(rights), rights.rows()), ((), 0, [], []))
        self.assertEqual(rights.matrix(), [[], [], [], []])
        self.assertEqual((rights.passing("a"), rights.begin_at("a"), rights.end_at("a")), ((), (), ()))
        self.assertEqual(rights.only(), rights)
        self.assertEqual(rights.river, fork())

    def test_answers(self):
        rights = fork_rights()
        self.assertEqual(rights.names, ("p", "q", "r", "s", "sea"))
        self.assertEqual([rights.intake(name) for name in rights], ["d", "c", "b", "b", "d"])
        self.assertEqual([rights.last(name) for name in rights], ["c", "a", "b", "a", "d"])
        self.assertEqual([rights.is_given_back(name) for name in rights], [True, False, True, True, True])
        self.assertEqual([rights.way(name) for name in rights],
                         [("d", "c"), ("c", "a"), ("b",), ("b", "a"), ("d",)])
        self.assertEqual([rights.passing(weir) for weir in rights.river],
                         [("q", "s"), ("r", "s"), ("p", "q"), ("p", "sea")])
        self.assertEqual([rights.begin_at(weir) for weir in rights.river], [(), ("r", "s"), ("q",), ("p", "sea")])
        self.assertEqual([rights.end_at(weir) for weir in rights.river], [("q", "s"), ("r",), ("p",), ("sea",)])
        self.assertEqual(rights.matrix(), [[0, 1, 0, 1, 0], [0, 0, 1, 1, 0], [1, 1, 0, 0, 0], [1, 0, 0, 0, 1]])

    def test_the_sea_and_the_last_weir_before_it(self):
        rights = Rights(fork(), [("a", "d", "a"), ("b", "d", "sea")])
        self.assertEqual(rights.way("a"), rights.way("b"))
        self.assertEqual((rights.last("a"), rights.last("b")), ("a", "a"))
        self.assertEqual((rights.is_given_back("a"), rights.is_given_back("b")), (True, False))
        self.assertEqual(rights.rows(), [("a", "d", "a"), ("b", "d", "sea")])

    def test_is_one_of_the_rights(self):
        rights = fork_rights()
        self.assertTrue("p" in rights and "sea" in rights)
        for value in ODD_VALUES + ["a", "d"]:
            self.assertFalse(value in rights)

    def test_unknown_names(self):
        rights = fork_rights()
        for value in ODD_VALUES + ["a", "zz"]:
            for method in [rights.intake, rights.last, rights.is_given_back, rights.way]:
                self.fails(NoRight(value), method, value)
            self.fails(NoRight(value), rights.passes, value, "nowhere")
            self.fails(NoRight(value), rights.only, "p", value, "nobody")
        for value in ODD_VALUES + ["p", "sea"]:
            for method in [rights.passing, rights.begin_at, rights.end_at]:
                self.fails(NoWeir(value), method, value)
            self.fails(NoWeir(value), rights.passes, "p", value)
        self.assertIs(rights.passes(name="p", weir="c"), True)
        self.assertIs(rights.passes("p", "a"), False)

    def test_only(self):
        rights = fork_rights()
        self.assertEqual(rights.only(), Rights(fork(), []))
        self.assertEqual(rights.only("s", "p", "s", "p").rows(), [("p", "d", "c"), ("s", "b", "a")])
        self.assertEqual(rights.only("sea", "s", "r", "q", "p"), rights)
        self.assertEqual(len(rights), 5)

    def test_joined(self):
        rights = fork_rights()
        longer = rights.joined(("t", "a", "sea"))
        self.assertEqual(longer.rows(), rights.rows() + [("t", "a", "sea")])
        self.assertEqual(len(rights), 5)
        for row in ODD_VALUES + [("p", "a", "a"), ("t", "a", "d"), ["t", "a", "a"]]:
            self.fails(NotRights(5), rights.joined, row)
        full = Rights(fork(), [(name_of(number), "a", "a") for number in range(40)])
        self.fails(NotRights(-1), full.joined, ("zz", "a", "a"))

    def test_forty_rights_over_forty_weirs(self):
        river = long_river()
        rights = Rights(river, [(name, name, "sea") for name in river])
        self.assertEqual(rights.passing("bn"), rights.names)
        self.assertEqual(rights.passing("b"), ("a", "b"))
        self.assertEqual(rights.begin_at("c"), ("c",))
        self.assertEqual(rights.end_at("bn"), rights.names)

    def test_equality(self):
        rows = fork_rights().rows()
        other_river = River(fork().rows()[::-1])
        self.assertTrue(fork_rights() == fork_rights())
        self.equals_nothing_else(fork_rights(), Rights(fork(), rows[::-1]), Rights(other_river, rows),
                                 Rights(fork(), rows[:4]), Rights(fork(), rows[:1] + [("q", "c", "a")] + rows[2:]),
                                 fork(), rows)
        self.assertFalse(Rights(fork(), []) == fork())

    def test_arguments_and_answers_are_copied(self):
        rows = fork_rights().rows()
        rights = Rights(fork(), rows)
        rows.append(("t", "a", "a"))
        rights.rows().append(("u", "a", "a"))
        rights.matrix()[0][0] = 7
        rights.matrix().append([])
        self.assertEqual(rights, fork_rights())
        self.assertEqual(rights.matrix(), fork_rights().matrix())

    def test_against_the_definitions(self):
        for rights in many_rights(60):
            for name, intake, last in rights.rows():
                course = rights.river.course(intake)
                way = course if last == "sea" else course[:course.index(last) + 1]
                self.assertEqual(rights.way(name), way)
                self.assertEqual((rights.intake(name), rights.last(name)), (way[0], way[-1]))
                self.assertIs(rights.is_given_back(name), last != "sea")
                for weir in rights.river:
                    self.assertIs(rights.passes(name, weir), weir in way)
            marks = [[int(rights.passes(name, weir)) for name in rights] for weir in rights.river]
            self.assertEqual(rights.matrix(), marks)
            for weir in rights.river:
                self.assertEqual(rights.passing(weir), tuple(name for name in rights if weir in rights.way(name)))
                self.assertEqual(rights.begin_at(weir), tuple(name for name in rights if rights.way(name)[0] == weir))
                self.assertEqual(rights.end_at(weir), tuple(name for name in rights if rights.way(name)[-1] == weir))


if __name__ == "__main__":
    unittest.main()
