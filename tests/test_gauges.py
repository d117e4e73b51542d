"""gauges.py: points 10.3 to 10.5."""

import random
import unittest

from tests.samples import (Case, ODD_VALUES, book_order, fork_rights, many_rights, one_weir, some_entries, some_tanks)
from weirkeepers.entries import CallTold, FishOrder, Pledge, Release, SpringRead
from weirkeepers.errors import NoRight, NotEntry, NotLedger, NoWeir
from weirkeepers.gauges import Gauges
from weirkeepers.rights import Rights
from weirkeepers.springs import Springs
from weirkeepers.tanks import Tanks


def tanks():
    """Tanks over the fork with one more right: of q and of t."""
    rights = Rights(fork_rights().river, fork_rights().rows() + [("t", "c", "sea")])
    return Tanks(rights, {"q": 5, "t": 7})


def drawn(count, size=30):
    """A list of (dice, tanks, entries), always the same ones."""
    dice = random.Random(count)
    rows = []
    for rights in many_rights(count, 4, 5):
        held = some_tanks(dice, rights)
        rows.append((dice, held, some_entries(dice, held, dice.randint(0, size), 4)))
    return rows


def known_ones(entries, known):
    """The entries that are known by this day."""
    return [entry for entry in entries if known is None or entry.known <= known]


def standing_by_words(entries, kind, name, day, known):
    """The entry that stands, by the words of the points."""
    rows = [entry for entry in known_ones(entries, known) if entry.KIND == kind and entry.name == name]
    if kind == "fish":
        days = [entry.day for entry in rows if entry.day <= day]
        rows = [entry for entry in rows if days and entry.day == max(days)]
    else:
        rows = [entry for entry in rows if entry.day == day]
    return max(rows, key=lambda entry: (entry.known, entry.number, entry.amount)) if rows else None


class TellTest(Case):

    def test_equal_entries_count_once(self):
        gauges = Gauges(tanks(), CallTold(0, 0, 0, "p", 1), CallTold(0, 0, 0, "p", 1))
        self.assertEqual((len(gauges), gauges.tanks), (1, tanks()))
        self.assertEqual(gauges.tell(CallTold(0, 0, 0, "p", 1)), 0)
        self.assertEqual(gauges.tell(CallTold(0, 0, 0, "p", 2), CallTold(0, 0, 0, "p", 1), CallTold(0, 0, 0, "p", 2),
                                     Release(0, 0, 0, "q", 2)), 2)
        self.assertEqual((len(gauges), gauges.tell()), (3, 0))
        self.assertEqual(len(Gauges(tanks())), 0)
        self.assertEqual(gauges.tell(CallTold(11, 99, 10 ** 6, "p", 10 ** 28), Pledge(11, 0, 0, "p", "q")), 2)

    def test_each_cause_in_its_order(self):
        fine = CallTold(0, 0, 0, "p", 1)
        rows = [(value, "entry") for value in ODD_VALUES + [fine.text(), ("call", 0, 0, 0, "p", 1), tanks()]]
        rows += [(CallTold(0, 0, 0, "zz", 1), "right"), (CallTold(0, 0, 0, "a", 1), "right"),
                 (Release(0, 0, 0, "d", 1), "right"), (Pledge(0, 0, 0, "zz", "p", "zz"), "right"),
                 (Pledge(0, 0, 0, "p", "zz"), "right"), (SpringRead(0, 0, 0, "p", 1), "weir"),
                 (FishOrder(0, 0, 0, "sea", 1), "weir"), (Pledge(0, 0, 0, "p", "p", "sea"), "weir"),
                 (Pledge(0, 0, 0, "p", "q", "zz"), "weir"), (Release(0, 0, 0, "p", 1), "tank"),
                 (Release(0, 0, 0, "sea", 1), "tank")]
        for entry, cause in rows:
            gauges = Gauges(tanks(), fine)
            self.fails(NotLedger(2, cause), gauges.tell, fine, Release(0, 0, 0, "t", 1), entry, None)
            self.fails(NotLedger(0, cause), Gauges, tanks(), entry, None)
            self.assertEqual(list(gauges), [fine])
            self.assertEqual(gauges, Gauges(tanks(), fine))

    def test_pledges_need_not_be_possible(self):
        gauges = Gauges(tanks(), Pledge(0, 0, 0, "p", "p"), Pledge(0, 0, 0, "p", "r"), Pledge(0, 0, 0, "p", "q", "b"))
        self.assertEqual(len(gauges), 3)

    def test_book_order_of_all_kinds(self):
        rows = [SpringRead(0, 3, 0, "a", 1), SpringRead(0, 0, 0, "d", 9), FishOrder(0, 0, 0, "a", 1),
                FishOrder(0, 0, 1, "a", 0), FishOrder(0, 1, 0, "a", 0), FishOrder(0, 1, 0, "a", 1),
                CallTold(0, 9, 9, "p", 9), CallTold(0, 0, 0, "t", 0),
                Release(0, 0, 0, "q", 1), Release(0, 0, 0, "t", 0),
                Pledge(0, 5, 0, "p", "q"), Pledge(0, 6, 0, "p", "q"), Pledge(0, 0, 0, "p", "q", "c"),
                Pledge(0, 0, 0, "p", "q", "d"), Pledge(0, 0, 0, "p", "s"), Pledge(0, 0, 0, "q", "p"),
                SpringRead(1, 1, 0, "a", 1), CallTold(2, 0, 0, "p", 0), CallTold(10, 0, 0, "p", 0)]
        dice = random.Random(1)
        for _ in range(10):
            mixed = dice.sample(rows, len(rows))
            gauges = Gauges(tanks(), *mixed[:5])
            gauges.tell(*mixed[5:12])
            gauges.tell(*mixed[3:])
            self.assertEqual(list(gauges), rows)

    def test_drawn_entries(self):
        for dice, held, entries in drawn(60):
            gauges = Gauges(held, *entries)
            wanted = sorted(entries, key=lambda entry: book_order(held.rights, entry))
            wanted = [entry for place, entry in enumerate(wanted) if entry not in wanted[:place]]
            self.assertEqual((list(gauges), list(gauges), len(gauges)), (wanted, wanted, len(wanted)))

    def test_in_with_any_value(self):
        gauges = Gauges(tanks(), CallTold(0, 0, 0, "p", 1))
        self.assertTrue(CallTold(0, 0, 0, "p", 1) in gauges)
        for value in ODD_VALUES + [CallTold(0, 0, 0, "p", 2), Release(0, 0, 0, "p", 1), SpringRead(0, 0, 0, "zz", 1),
                                   "call p 1 on 0 known 0 number 0"]:
            self.assertFalse(value in gauges)

    def test_equality(self):
        rows = [CallTold(0, 0, 0, "p", 1), Release(0, 0, 0, "q", 1)]
        gauges = Gauges(tanks(), *rows)
        self.assertEqual(gauges, Gauges(tanks(), *rows[::-1], rows[0]))
        self.equals_nothing_else(gauges, Gauges(tanks(), rows[0]), Gauges(tanks()), list(gauges), Gauges(
            Tanks(tanks().rights, {"q": 5}), *rows))


class StandingTest(Case):

    def test_known_number_and_amount(self):
        rows = [SpringRead(1, 1, 5, "a", 50), SpringRead(1, 2, 0, "a", 3), SpringRead(1, 2, 1, "a", 2),
                SpringRead(1, 2, 1, "a", 1), SpringRead(2, 2, 9, "a", 9)]
        gauges = Gauges(tanks(), *rows)
        told = [gauges.standing("spring", "a", 1, known) for known in (0, 1, 2, None)]
        self.assertEqual(told, [None, rows[0], rows[2], rows[2]])
        self.assertEqual([gauges.amount_of("spring", "a", day) for day in range(4)], [0, 2, 9, 0])
        self.assertEqual(gauges.amount_of(known=1, day=1, name="a", kind="spring"), 50)
        self.assertEqual([gauges.standing("fish", "a", 1), gauges.standing("spring", "b", 1)], [None, None])

    def test_fish_orders_of_several_days(self):
        rows = [FishOrder(1, 0, 0, "a", 10), FishOrder(3, 4, 0, "a", 30), FishOrder(1, 5, 0, "a", 11),
                FishOrder(3, 6, 0, "a", 31)]
        gauges = Gauges(tanks(), *rows)
        wanted = {0: [0, 10, 10, 10, 10], 4: [0, 10, 10, 30, 30], 5: [0, 11, 11, 30, 30], 6: [0, 11, 11, 31, 31],
                  None: [0, 11, 11, 31, 31]}
        for known, amounts in wanted.items():
            self.assertEqual([gauges.amount_of("fish", "a", day, known) for day in range(5)], amounts, known)
        self.assertEqual(gauges.standing("fish", "a", 11), rows[3])

    def test_by_the_words(self):
        for dice, held, entries in drawn(80):
            gauges = Gauges(held, *entries)
            rights = held.rights
            for day in range(5):
                for known in [None, 0, 2, 4, 99]:
                    for kind, names in [("spring", rights.river), ("fish", rights.river), ("call", rights),
                                        ("release", rights)]:
                        for name in names:
                            wanted = standing_by_words(entries, kind, name, day, known)
                            self.assertEqual(gauges.standing(kind, name, day, known), wanted)
                            self.assertEqual(gauges.amount_of(kind, name, day, known), wanted.amount if wanted else 0)

    def test_errors(self):
        gauges = Gauges(tanks())
        for call in (gauges.standing, gauges.amount_of):
            for value in ODD_VALUES + ["pledge", "springs", ("spring",), ["call"]]:
                self.fails(NotEntry("kind"), call, value, None, 0)
            for value in ODD_VALUES + ["p", "sea"]:
                if value != "a":
                    self.fails(NoWeir(value), call, "spring", value, 0)
                    self.fails(NoWeir(value), call, "fish", value, 0, 1)
                self.fails(NoRight(value) if value not in ("p", "sea") else NoRight("d"), call, "call",
                           value if value not in ("p", "sea") else "d", 0)
                self.fails(NoRight("b"), call, "release", "b", 0)
        self.assertEqual((gauges.standing("release", "p", 0), gauges.amount_of("release", "p", 0)), (None, 0))


class DayTest(Case):

    def test_springs_with_releases(self):
        gauges = Gauges(tanks(), SpringRead(1, 1, 0, "c", 10), Release(1, 2, 0, "q", 4), Release(1, 1, 0, "t", 3),
                        FishOrder(0, 0, 0, "a", 2), FishOrder(1, 3, 0, "a", 8), SpringRead(0, 0, 0, "a", 99))
        river = tanks().rights.river
        self.assertEqual(gauges.springs_on(1), Springs(river, {"c": 17}, {"a": 8}))
        self.assertEqual(gauges.springs_on(1, 2), Springs(river, {"c": 17}, {"a": 2}))
        self.assertEqual(gauges.springs_on(known=1, day=1), Springs(river, {"c": 13}, {"a": 2}))
        self.assertEqual(gauges.springs_on(1, 0), Springs(river, {}, {"a": 2}))
        self.assertEqual(gauges.springs_on(2), Springs(river, {}, {"a": 8}))

    def test_large_amounts(self):
        most = 10 ** 28
        releases = [Release(0, 0, 0, name, most) for name in "qt"]
        gauges = Gauges(tanks(), SpringRead(0, 0, 0, "c", most), *releases)
        self.assertEqual(gauges.springs_on(0).natural("a"), 3 * most)

    def test_pledges_in_the_order_in_which_they_are_tried(self):
        rows = [Pledge(2, 0, 0, "t", "q"), Pledge(0, 0, 1, "p", "q"), Pledge(1, 0, 1, "p", "q"),
                Pledge(0, 0, 1, "p", "q", "c"), Pledge(0, 0, 1, "p", "q", "d"), Pledge(0, 0, 1, "p", "t"),
                Pledge(0, 0, 1, "q", "p"), Pledge(0, 0, 2, "p", "q"), Pledge(1, 1, 0, "p", "q"),
                Pledge(0, 2, 0, "p", "q")]
        dice = random.Random(2)
        for _ in range(5):
            gauges = Gauges(tanks(), *dice.sample(rows, len(rows)))
            self.assertEqual(gauges.pledges(2), rows)
            self.assertEqual(gauges.pledges(1), rows[1:])
            self.assertEqual(gauges.pledges(0), [row for row in rows if row.day == 0])
            self.assertEqual(gauges.pledges(known=1, day=11), rows[:9])
            self.assertEqual(gauges.pledges(2, 0), rows[:8])

    def test_by_the_words(self):
        for dice, held, entries in drawn(80):
            gauges = Gauges(held, *entries)
            rights = held.rights
            single = [entry for place, entry in enumerate(entries) if entry not in entries[:place]]
            for day in range(4):
                for known in [None, 0, 2, 4]:
                    springs = {}
                    fish = {}
                    for weir in rights.river:
                        rows = [standing_by_words(entries, "spring", weir, day, known)]
                        rows += [standing_by_words(entries, "release", name, day, known)
                                 for name in rights.begin_at(weir)]
                        springs[weir] = sum(row.amount for row in rows if row)
                        row = standing_by_words(entries, "fish", weir, day, known)
                        fish[weir] = row.amount if row else 0
                    self.assertEqual(gauges.springs_on(day, known), Springs(rights.river, springs, fish))
                    pledges = [row for row in known_ones(single, known) if row.KIND == "pledge" and row.day <= day]
                    pledges.sort(key=lambda row: (row.known, row.number, book_order(rights, row)[2], row.day))
                    self.assertEqual(gauges.pledges(day, known), pledges)
            self.assertEqual(gauges.knowns(), tuple(sorted({entry.known for entry in entries})))

    def test_knowns(self):
        gauges = Gauges(tanks(), CallTold(5, 9, 0, "p", 1), CallTold(5, 2, 0, "p", 1), CallTold(5, 9, 1, "p", 1),
                        Pledge(0, 0, 0, "p", "q"))
        self.assertEqual((gauges.knowns(), Gauges(tanks()).knowns()), ((0, 2, 9), ()))

    def test_results_are_new(self):
        gauges = Gauges(tanks(), Pledge(0, 0, 0, "p", "q"))
        gauges.pledges(0).clear()
        self.assertEqual(len(gauges.pledges(0)), 1)


class MergedTest(Case):

    def test_all_entries_in_a_new_object(self):
        rows = [CallTold(0, 0, 0, "p", 1), Release(0, 0, 0, "q", 1), Pledge(0, 0, 0, "p", "q")]
        gauges = Gauges(tanks(), rows[0])
        found = gauges.merged(Gauges(tanks(), rows[2], rows[0]), Gauges(tanks()), Gauges(tanks(), rows[1]))
        self.assertEqual(found, Gauges(tanks(), *rows))
        twin = gauges.merged()
        twin.tell(rows[1])
        found.tell(CallTold(0, 0, 0, "p", 7))
        self.assertEqual((list(gauges), len(twin), len(found)), (rows[:1], 2, 4))

    def test_other_tanks(self):
        gauges = Gauges(tanks())
        others = [Gauges(Tanks(tanks().rights, {"q": 5})), Gauges(Tanks.none(one_weir())),
                  Gauges(Tanks(tanks().rights, {"q": 5, "t": 8}))]
        for other in others:
            self.fails(NotLedger(1, "tanks"), gauges.merged, Gauges(tanks()), other, others[0])
            self.fails(NotLedger(0, "tanks"), gauges.merged, other)


if __name__ == "__main__":
    unittest.main()
