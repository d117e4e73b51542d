"""rivers.py: points 1.1 to 1.4, and the rules of 0.3 and 0.4."""

import random
import unittest

from tests.samples import Case, ODD_VALUES, fork, long_river, some_river
from weirkeepers.errors import NotDown, NotRiver, NoWeir
from weirkeepers.rivers import River, is_name


class NameTest(Case):

    def test_names(self):
        for value in ["a", "z", "sea", "abcdefgh", "zzzzzzzz"]:
            self.assertIs(is_name(value), True)

    def test_no_names(self):
        for value in ["", "abcdefghi", "A", "a1", "a b", " ", "a\n", "a-", "`", "{", None, True, 1, ["a"], ("a",), []]:
            self.assertIs(is_name(value), False)
        self.assertIs(is_name(value="a"), True)


class WrongRiverTest(Case):
    """[1.2]: the place of a wrong river."""

    def test_no_list_or_too_short_or_too_long(self):
        rows = [(name, "sea") for name in long_river().weirs]
        for value in [None, True, 3, "a", (), (("a", "sea"),), [], rows + [("zz", "sea")], rows + rows, [1] * 41]:
            self.fails(NotRiver(-1), River, value)
        self.assertEqual(len(River(rows)), 40)

    def test_wrong_by_itself(self):
        good = ("a", "sea")
        for value in [["b", "a"], ("b",), ("b", "a", "a"), (), None, 7, "ba", ("b", None), (True, "a"), ("B", "a"),
                      ("b", ""), ("", "a"), ("sea", "a"), ("sea", "sea"), ("a", "sea"), (["b"], "a"), ("b", ["a"]),
                      (("b",), "a"), ("abcdefghi", "a"), ("b", "abcdefghi"), ("b", "a ")]:
            self.fails(NotRiver(1), River, [good, value])
            self.fails(NotRiver(2), River, [good, ("c", "a"), value, value])
            self.fails(NotRiver(0), River, [value if value != good else 1, good])

    def test_wrong_by_itself_comes_before_a_wrong_below(self):
        self.fails(NotRiver(2), River, [("a", "nowhere"), ("b", "b"), ("a", "sea")])

    def test_below_nothing_comes_before_going_round(self):
        self.fails(NotRiver(2), River, [("a", "b"), ("b", "a"), ("c", "d"), ("e", "f")])
        self.fails(NotRiver(0), River, [("a", "b")])

    def test_first_that_does_not_reach_the_sea(self):
        self.fails(NotRiver(0), River, [("c", "a"), ("a", "b"), ("b", "a")])
        self.fails(NotRiver(1), River, [("a", "sea"), ("b", "b")])
        self.fails(NotRiver(0), River, [("a", "a")])
        self.fails(NotRiver(2), River, [("a", "sea"), ("b", "a"), ("c", "d"), ("d", "e"), ("e", "d")])
        names = list(long_river().weirs)
        self.fails(NotRiver(0), River, list(zip(names, names[1:] + names[:1])))
        self.fails(NotRiver(0), River, list(zip(names, names[1:] + names[-1:])))


class RiverTest(Case):
    """[1.1], [1.3], [1.4]."""

    def test_example(self):
        river = fork()
        self.assertEqual(river.course("d"), ("d", "c", "a"))
        self.assertEqual(river.meeting("b", "d"), "a")
        self.assertEqual(river.way("d", "c"), ("d", "c"))
        self.assertEqual(list(river.downward()), ["d", "b", "c", "a"])

    def test_one_weir(self):
        river = River([("a", "sea")])
        self.assertEqual(river.weirs, ("a",))
        self.assertEqual((len(river), list(river), river.rows()), (1, ["a"], [("a", "sea")]))
        self.assertEqual((river.below("a"), river.above("a"), river.above("sea")), ("sea", (), ("a",)))
        self.assertEqual((river.course("a"), river.depth("a"), river.upstream("a")), (("a",), 1, ("a",)))
        self.assertEqual((river.way("a", "a"), river.way("a", "sea")), (("a",), ("a",)))
        self.assertEqual((river.is_down("a", "a"), river.meeting("a", "a")), (True, "a"))
        self.assertEqual(list(river.downward()), ["a"])

    def test_forty_weirs(self):
        river = long_river()
        self.assertEqual(len(river), 40)
        self.assertEqual(river.course("a"), river.weirs)
        self.assertEqual((river.depth("a"), river.depth("bn")), (40, 1))
        self.assertEqual(river.upstream("bn"), river.weirs)
        self.assertEqual(tuple(river.downward()), river.weirs)
        self.assertEqual(tuple(River(river.rows()[::-1]).downward()), river.weirs)

    def test_several_weirs_above_the_sea_in_any_order(self):
        river = River([("x", "m"), ("n", "sea"), ("y", "n"), ("m", "sea"), ("w", "n")])
        self.assertEqual(river.weirs, ("x", "n", "y", "m", "w"))
        self.assertEqual(river.above("sea"), ("n", "m"))
        self.assertEqual((river.above("n"), river.above("x")), (("y", "w"), ()))
        self.assertEqual(river.upstream("n"), ("n", "y", "w"))
        self.assertEqual((river.meeting("x", "y"), river.meeting("y", "w"), river.meeting("n", "w")), ("sea", "n", "n"))
        self.assertEqual((river.is_down("y", "n"), river.is_down("n", "y"), river.is_down("y", "m")),
                         (True, False, False))
        self.assertEqual(list(river.downward()), ["x", "y", "w", "n", "m"])
        self.assertEqual((river.below("m"), river.below("y")), ("sea", "n"))

    def test_is_one_of_the_weirs(self):
        river = fork()
        self.assertTrue("a" in river)
        for value in ODD_VALUES + ["sea", "e"]:
            if value != "a":
                self.assertFalse(value in river)

    def test_unknown_weirs(self):
        river = fork()
        for value in ODD_VALUES + ["sea", "e"]:
            for method in [river.below, river.course, river.depth, river.upstream]:
                self.fails(NoWeir(value), method, value)
            if value != "sea":
                self.fails(NoWeir(value), river.above, value)
                self.fails(NoWeir(value), river.way, "a", value)
            for method in [river.is_down, river.meeting]:
                self.fails(NoWeir(value), method, value, "nobody")
                self.fails(NoWeir(value), method, "a", value)
            self.fails(NoWeir(value), river.way, value, "nobody")

    def test_way_to_a_weir_that_is_not_down(self):
        self.fails(NotDown("a", "d"), fork().way, "a", "d")
        self.fails(NotDown("b", "c"), fork().way, intake="b", last="c")
        self.fails(NoWeir("sea"), fork().way, "sea", "a")
        self.assertEqual(fork().way("d", "sea"), ("d", "c", "a"))
        self.assertEqual(fork().way("d", "d"), ("d",))

    def test_equality(self):
        rows = fork().rows()
        self.assertTrue(fork() == fork())
        self.equals_nothing_else(fork(), River(rows[::-1]), River(rows[:3]), rows, fork().weirs)

    def test_arguments_and_answers_are_copied(self):
        rows = fork().rows()
        river = River(rows)
        rows.append(("e", "a"))
        river.rows().append(("f", "a"))
        self.assertEqual((river, river.rows()), (fork(), fork().rows()))
        self.assertEqual(len(river), 4)
        rows[-1] = 5
        self.fails(NotRiver(4), River, rows)
        self.assertEqual(rows, fork().rows() + [5])

    def test_against_the_definitions(self):
        dice = random.Random(1)
        for _ in range(60):
            river = some_river(dice, 12)
            below = dict(river.rows())
            for high in river:
                course = [high]
                while below[course[-1]] != "sea":
                    course.append(below[course[-1]])
                self.assertEqual(river.course(high), tuple(course))
                self.assertEqual(river.depth(high), len(course))
                self.assertEqual(river.above(high), tuple(weir for weir in river if below[weir] == high))
                self.assertEqual(river.upstream(high), tuple(weir for weir in river if river.is_down(weir, high)))
                for low in river:
                    self.assertIs(river.is_down(high, low), low in course)
                    shared = [weir for weir in course if weir in river.course(low)]
                    self.assertEqual(river.meeting(high, low), (shared + ["sea"])[0])
                    self.assertEqual(river.meeting(high, low), river.meeting(low, high))
            depths = [(-river.depth(weir), river.weirs.index(weir)) for weir in river.downward()]
            self.assertEqual(depths, sorted(depths))
            self.assertEqual(sorted(river.downward()), sorted(river.weirs))


if __name__ == "__main__":
    unittest.main()
