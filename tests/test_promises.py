"""promises.py: points 4.1 and 4.3."""

import unittest

from tests.samples import Case, ODD_VALUES, fork, fork_rights, many_rights
from weirkeepers.errors import NoRight, NotBook, NoWeir
from weirkeepers.meetings import meet
from weirkeepers.promises import Promise
from weirkeepers.rights import Rights


class PromiseTest(Case):

    def test_attributes(self):
        promise = Promise("p", "q")
        self.assertEqual((promise.giver, promise.taker, promise.weir), ("p", "q", None))
        promise = Promise(weir="c", taker=7, giver=None)
        self.assertEqual((promise.giver, promise.taker, promise.weir), (None, 7, "c"))

    def test_said(self):
        rights = Rights(fork(), [("p", "d", "sea"), ("q", "d", "a"), ("r", "c", "c"), ("s", "b", "b")])
        self.assertEqual(Promise("q", "p").said(rights), [("d", "q", "p"), ("c", "q", "p"), ("a", "q", "p")])
        self.assertEqual(Promise("p", "q", "c").said(rights), [("c", "p", "q")])
        self.assertEqual(Promise("r", "p").said(rights), [("c", "r", "p")])

    def test_errors_in_their_order(self):
        rights = fork_rights()
        for value in ODD_VALUES + ["a", "zz"]:
            self.fails(NoRight(value), Promise(value, "nobody", "nowhere").said, rights)
            self.fails(NoRight(value), Promise("p", value, "nowhere").said, rights)
        for value in ODD_VALUES + ["p", "sea"]:
            if value is not None:
                self.fails(NoWeir(value), Promise("p", "p", value).said, rights)
                self.fails(NoWeir(value), Promise("p", "r", value).said, rights)
        self.fails(NotBook("self", None, "p"), Promise("p", "p").said, rights)
        self.fails(NotBook("self", "d", "p"), Promise("p", "p", "d").said, rights)
        self.fails(NotBook("self", "b", "p"), Promise("p", "p", "b").said, rights)
        self.fails(NotBook("meet", None, "p"), Promise("p", "r").said, rights)
        self.fails(NotBook("meet", "d", "p"), Promise("p", "q", "d").said, rights)
        self.fails(NotBook("meet", "a", "p"), Promise("p", "q", "a").said, rights)
        self.fails(NotBook("meet", "b", "p"), Promise("p", "r", "b").said, rights)
        self.fails(NotBook("meet", "a", "p"), Promise("p", "r", "a").said, rights=rights)

    def test_equality(self):
        self.assertTrue(Promise("p", "q", "a") == Promise("p", "q", "a"))
        self.equals_nothing_else(
            Promise("p", "q", "a"), Promise("q", "p", "a"), Promise("p", "q"), Promise("p", "q", "b"),
            Promise("p", "r", "a"), Promise("r", "q", "a"), ("p", "q", "a"))

    def test_against_the_definition(self):
        for rights in many_rights(40, 6, 6):
            for giver in rights:
                for taker in rights:
                    both = [weir for weir in rights.way(giver) if rights.passes(taker, weir)]
                    if giver == taker:
                        self.fails(NotBook("self", None, giver), Promise(giver, taker).said, rights)
                    elif not both:
                        self.fails(NotBook("meet", None, giver), Promise(giver, taker).said, rights)
                    else:
                        wanted = [(weir, giver, taker) for weir in both]
                        self.assertEqual(Promise(giver, taker).said(rights), wanted)
                        self.assertEqual(tuple(both), meet(rights, taker, giver))

    def test_answers_are_new(self):
        promise = Promise("p", "q")
        promise.said(fork_rights()).append(None)
        self.assertEqual(promise.said(fork_rights()), [("c", "p", "q")])


if __name__ == "__main__":
    unittest.main()
