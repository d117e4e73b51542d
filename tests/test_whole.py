"""The whole program: point 0.2 on drawn books of each kind, and the rules of points 0.3 and 0.4 for every module."""

import importlib
import inspect
import random
import types
import unittest

from tests.samples import (Case, ODD_VALUES, crowded_rights, small_days, some_book, some_rights, three_ends, unlike,
                           wrong_kinds)
from tests.test_form import INTERFACE
from weirkeepers.acts import Rounds
from weirkeepers.best import best
from weirkeepers.books import Book
from weirkeepers.bounds import bounds
from weirkeepers.days import Day
from weirkeepers.dealing import deal, first_sharing
from weirkeepers.entries import CallTold, FishOrder, Pledge, Release, SpringRead
from weirkeepers.errors import NoRight, NotFirstKind, NoWeir
from weirkeepers.everyday import order_price
from weirkeepers.gauges import Gauges
from weirkeepers.keepers import Keeper
from weirkeepers.ladders import hold_of
from weirkeepers.ledger import Ledger
from weirkeepers.lines import line_pairs
from weirkeepers.listing import Listing, how_many, settled_sharings
from weirkeepers.lots import least_lots
from weirkeepers.meetings import meet
from weirkeepers.promises import Promise
from weirkeepers.rights import Rights
from weirkeepers.rivers import River
from weirkeepers.settled import is_settled
from weirkeepers.sharings import Sharing, fits
from weirkeepers.springs import Springs
from weirkeepers.table import Table, first_standing
from weirkeepers.tanks import Tanks
from weirkeepers.trades import Trade
from weirkeepers.verdict import Kind, is_line, judge
from weirkeepers.walk import Walk, walked
from weirkeepers.widening import Change, by_widening
from weirkeepers.worths import Worths

# These change their object, so they do not answer twice alike.
CHANGING = {("acts", "act"), ("acts", "undo"), ("gauges", "tell"), ("ledger", "tell")}


def drawn(count):
    """A list of `count` small books, a third of each kind."""
    dice = random.Random(count)
    found = {Kind.ONE: [], Kind.SOME: [], Kind.NONE: []}
    while min(len(rows) for rows in found.values()) < count // 3:
        rights = dice.choice([some_rights, crowded_rights])(dice, 3, 4)
        book = some_book(dice, rights)
        rows = found[judge(book).kind]
        if len(rights) <= 4 and len(rows) < count // 3:
            rows.append(book)
    return found


class PromiseTest(Case):
    """Point 0.2: on all small days the settled sharings are as the kind says."""

    def days_of(self, book):
        """All days with calls and waters up to 1, or some of them, and some with more cubes."""
        dice = random.Random(len(book.rights))
        days = list(small_days(book.rights))
        days = dice.sample(days, min(25, len(days)))
        more = list(small_days(book.rights.only(*book.rights.names[:3]), 2, 2)) if len(book.rights) <= 3 else []
        return days + dice.sample(more, min(15, len(more)))

    def test_exactly_one(self):
        for book in drawn(60)[Kind.ONE]:
            verdict = judge(book)
            self.assertTrue(is_line(book, verdict.line))
            for weir in book.river:
                ranked = tuple(name for name in verdict.line if book.rights.passes(name, weir))
                self.assertEqual(book.ranked(weir), ranked)
            for day in self.days_of(book):
                wanted = first_sharing(book, day)
                self.assertEqual(list(settled_sharings(book, day)), [wanted])
                self.assertEqual((walked(book, day), how_many(book, day)), (wanted, 1))
                self.assertTrue(is_settled(book, day, wanted) and fits(day, wanted))
                self.assertTrue(all(isinstance(cubes, int) for _, cubes in wanted))

    def test_at_least_one_and_on_some_day_two(self):
        for book in drawn(60)[Kind.SOME]:
            verdict = judge(book)
            self.assertEqual(sorted(settled_sharings(book, verdict.day), key=lambda row: tuple(row.cubes().values())),
                             sorted(verdict.sharings, key=lambda row: tuple(row.cubes().values())))
            self.assertNotEqual(verdict.sharings[0], verdict.sharings[1])
            for day in self.days_of(book):
                self.assertIn(walked(book, day), list(settled_sharings(book, day)))

    def test_on_some_day_none(self):
        for book in drawn(60)[Kind.NONE]:
            verdict = judge(book)
            self.assertEqual(list(settled_sharings(book, verdict.day)), [])
            weir, one, two, three = verdict.ring
            for ahead, behind in [(one, two), (two, three), (three, one)]:
                self.assertTrue(book.goes_ahead(weir, ahead, behind))
            for day in small_days(book.rights.only(one, two, three)):
                full = Day(book.rights, day.calls(), day.waters())
                for sharing in settled_sharings(book, full):
                    self.assertTrue(is_settled(book, full, sharing))


def plain(value):
    """What a value is made of, as nested tuples that are equal exactly if nothing has changed."""
    if isinstance(value, types.GeneratorType):
        return ("generator",) + tuple(plain(part) for part in value)
    if isinstance(value, (list, tuple)):
        return (type(value).__name__,) + tuple(plain(part) for part in value)
    if isinstance(value, dict):
        return ("dict",) + tuple((plain(key), plain(part)) for key, part in value.items())
    if type(value).__module__.startswith("weirkeepers"):
        return (type(value).__name__,) + tuple((name, plain(part)) for name, part in sorted(vars(value).items()))
    return (type(value).__name__, value)


def spoil(value):
    """Empties the lists and dicts that were returned, also those within others."""
    parts = list(value.values()) if isinstance(value, dict) else value if isinstance(value, (list, tuple)) else []
    for part in list(parts):
        spoil(part)
    if isinstance(value, (list, dict)):
        value.clear()


class Scene:
    """Objects of every class, and the arguments with which everything is called."""

    def __init__(self):
        self.river = River([("low", "sea"), ("up", "low"), ("side", "low")])
        self.rights = Rights(self.river, [("a", "up", "sea"), ("b", "up", "low"), ("c", "side", "sea"),
                                          ("d", "up", "up")])
        self.book = Book.alike(self.rights, "acbd", [Promise("a", "c")])
        self.other = Book.alike(self.rights, "badc")
        self.day = Day(self.rights, {"a": 2, "b": 2, "c": 1, "d": 1}, {"up": 3, "low": 2, "side": 2})
        self.sharing = first_sharing(self.book, self.day)
        self.springs = Springs(self.river, {"up": 3, "side": 2}, {"low": 1})
        self.worths = Worths(self.rights, {"a": 3, "b": 5, "c": 2, "d": 1})
        self.amounts = {"a": 1, "b": 1, "c": 0, "d": 1}
        self.tanks = Tanks(self.rights, {"a": 4, "c": 2})
        self.entries = [SpringRead(0, 0, 0, "up", 3), FishOrder(0, 0, 0, "low", 1), CallTold(0, 1, 0, "a", 2),
                        Release(1, 1, 0, "c", 1), Pledge(0, 0, 0, "b", "a", "up")]
        self.gauges = Gauges(self.tanks, *self.entries)
        self.ledger = Ledger(self.book, self.gauges, days=2)
        self.offers = [Promise("c", "a"), Promise("a", "b", "up")]
        self.lots = least_lots(self.book, self.offers)
        self.quarrel, self.dry = unlike(), Day(unlike().rights, {}, {}, call=2, water=2)
        self.table = Table(self.day)
        self.walk = Walk(self.book, self.day)
        self.end = list(self.walk.road(("weir", "up")).end)
        self.ends_book, self.ends_day = three_ends()
        self.ahead = line_pairs(self.rights, list("abcd"))


def function_calls(scene):
    """For each file, each function with the arguments of a call."""
    book, other, day, rights, sharing = scene.book, scene.other, scene.day, scene.rights, scene.sharing
    two = list(settled_sharings(scene.quarrel, scene.dry))
    around = [("a", "b"), ("b", "c"), ("c", "a"), ("d", "a"), ("b", "d")]
    quarrel = (scene.quarrel, scene.dry)
    return {
        "rivers": {"is_name": ["a"]},
        "charts": {"read_chart": ["weir a sea\nright p a sea"], "write_chart": [rights], "chart_table": [rights]},
        "meetings": {"meet": [rights, "a", "b"], "met_by": [rights, "a"], "common": [rights, ["a", "b"]],
                     "pairs": [rights]},
        "removal": {"removal_order": [rights], "removal_fault": [rights, ["a", "b"]], "crowds": [rights]},
        "turns": {name: [rights] for name in ("fullest", "turns", "apart", "guards")},
        "halves": {"halves": [rights, ["b", "a"]], "weir_halves": [scene.river, ["low", "up"]],
                   "spread": [rights, {"b": 3, "a": 1}]},
        "lines": {"line_pairs": [rights, ["b", "a", "d", "c"]], "line_up": [rights, scene.ahead],
                  "goes_round": [("a", "b", "c"), around], "shrunk": [rights, ("a", "b", "c"), around]},
        "springs": {"springs_for": [scene.river, {"up": 3, "low": 1}]},
        "sharings": {"unfit": [day, sharing], "fits": [day, sharing]},
        "waterwalk": {"water_walk": [scene.springs, sharing]},
        "topup": {"top_up": [scene.springs, sharing]},
        "daytext": {"read_day": [rights, "call a 1\nwater up 2"], "write_day": [day]},
        "booktext": {"read_book": [rights, "order up a b d\norder low b a c\norder side c\ngive a c"],
                     "write_book": [book]},
        "settled": {"bar": [book, day, sharing, "a"], "bars": [book, day, sharing],
                    "open_rights": [book, day, sharing], "is_settled": [book, day, sharing]},
        "rings": {"rings": [book], "quarrels": [scene.quarrel], "is_ring": [book, ("up", "a", "b", "c")],
                  "is_quarrel": [scene.quarrel, ("a", "b", "up", "low")]},
        "verdict": {"judge": [book], "is_line": [book, ["c", "a", "b", "d"]], "is_two": list(quarrel) + two[:2],
                    "need_first": [book]},
        "dealing": {"deal": [day, ["c", "a"]], "first_sharing": [book, day]},
        "keepers": {"heeded": [book, "b"], "offer": [book, day, "low", "b", scene.amounts],
                    "step": [book, day, scene.amounts], "is_rest": [book, day, scene.amounts]},
        "acts": {"swing": [book, day, scene.amounts]},
        "bounds": {"bounds": [book, day]},
        "unrest": {"tier": [book, "b"], "calm": [book], "restless": [scene.quarrel], "calm_amounts": [book, day],
                   "rest_by": [book, "a"], "unrest": [scene.quarrel, "a"]},
        "table": {"first_standing": [scene.table], "standing_of": [scene.table, scene.end]},
        "ladders": {"hold_of": [scene.walk.ladders, scene.end], "first_hold": [scene.walk.ladders, ("weir", "up")]},
        "walk": {"walked": [book, day]},
        "ends": {"ends": list(quarrel), "paired": list(quarrel) + [("weir", "up")], "reached": list(quarrel)},
        "knots": {name: list(quarrel) for name in ("room", "steady", "knots", "why_none")},
        "listing": {name: list(quarrel) for name in ("settled_sharings", "how_many")},
        "wheels": {"need_settled": list(quarrel) + two[:1], "wheel": list(quarrel) + two[:2],
                   "is_wheel": list(quarrel) + two[:2] + [(("a", "low", "b"), ("b", "up", "a"))]},
        "sureness": {"sure": list(quarrel), "possible": list(quarrel), "unsure": list(quarrel),
                     "best_for": list(quarrel) + ["a"], "regrets": list(quarrel) + two[:1],
                     "fairest": list(quarrel), "sure_table": list(quarrel)},
        "worths": {"way_price": [rights, {"low": 2}, "a"], "rent": [scene.worths, {"low": 2}, "a"],
                   "ceiling": [day, scene.worths, {"low": 2, "up": 1}]},
        "best": {"best": [day, scene.worths], "flaw": [day, scene.worths, sharing, {"low": 3, "side": None}],
                 "price_range": [day, scene.worths, "low"]},
        "bills": {"bill": [day, scene.worths, {"low": 3, "up": 1}, sharing]},
        "trades": {"trade": [day, scene.worths, sharing], "steps": [sharing, best(day, scene.worths).sharing]},
        "everyday": {"is_cover": [book, "a", {"b": "low"}], "cover_day": [book, "a", {"b": "low"}],
                     "dearest_cover": [book, scene.worths, "a"], "order_price": [book, scene.worths],
                     "most_worth_bound": [book, scene.worths, sharing]},
        "ordercosts": {"order_cost": [book, day, scene.worths]},
        "widening": {"widening_harm": [book, "b"], "by_widening": [book],
                     "is_widening": [book, ("b", "c", "low", "side")],
                     "widened_change": [book, day, "low"], "reached": [book, day, "low"]},
        "rain": {"rain_harm": [book, "d"], "by_rain": [book], "is_rain": [book, ("d", "a", "up", "low")],
                 "rain_change": [book, day, "up"], "spared": [book]},
        "twobooks": {"differences": [book, other], "agree": [book, other], "parted": [book, other],
                     "is_difference": [book, other, ("up", "a", "b")], "same_on": [book, other, day],
                     "turning": [book, other]},
        "lots": {"least_lots": [book, scene.offers], "idle": [book, scene.offers]},
        "moves": {"exchanged": [book, "a", "b"], "blockers": [book, "c", "b"], "free_pairs": [book],
                  "exchange_change": [book, day, "a", "b"], "turned_pairs": [book, other], "exchanges": [book, other],
                  "is_raised": [book, other, "b"], "open_places": [book, "up", "d"]},
        "entrytext": {"read_entries": ["call a 1 on 0 known 0 number 0"], "write_entries": [scene.entries]},
        "touched": {"reach": [book, ["a"]], "chain": [book, ["c"], "d"], "moved_at_once": [scene.tanks, "spring", "up"],
                    "touched": [book, scene.tanks, "call", "c"],
                    "touch_paper": [book, scene.tanks, "call", "c", "b"]},
        "reports": {"statement": [scene.ledger, "a"], "totals": [scene.ledger], "owing": [scene.ledger],
                    "revision": [scene.ledger, 0, 0, None], "restated": [scene.ledger, 0]},
    }


def method_calls(scene):
    """For each file, tuples (object, method, arguments of a call)."""
    rights, day, sharing, book = scene.rights, scene.day, scene.sharing, scene.book
    standing = first_standing(scene.table)
    hold = hold_of(scene.walk.ladders, scene.end)
    rounds = Rounds(book, day, scene.amounts)
    rounds.act()
    trade = Trade(rights, ["a", "d"], ["b"])
    found = best(day, scene.worths)
    met = bounds(book, day)
    page = scene.ledger.page(1)
    price = order_price(book, scene.worths)
    change = Change(sharing, found.sharing)
    harm = by_widening(book)[0]
    listing = Listing(scene.quarrel, scene.dry)
    river = scene.river
    calls = {
        "rivers": [(river, "rows", []), (river, "below", ["up"]), (river, "above", ["low"]), (river, "course", ["up"]),
                   (river, "depth", ["up"]), (river, "upstream", ["low"]), (river, "is_down", ["up", "low"]),
                   (river, "meeting", ["up", "side"]), (river, "way", ["up", "low"]), (river, "downward", [])],
        "rights": [(rights, "rows", []), (rights, "intake", ["a"]), (rights, "last", ["a"]),
                   (rights, "is_given_back", ["a"]), (rights, "way", ["a"]), (rights, "passes", ["a", "up"]),
                   (rights, "passing", ["up"]), (rights, "begin_at", ["up"]), (rights, "end_at", ["up"]),
                   (rights, "matrix", []), (rights, "only", ["a", "b"]), (rights, "joined", [("e", "up", "sea")])],
        "springs": [(scene.springs, name, ["up"]) for name in ("spring", "fish", "natural", "water")] + [
            (scene.springs, "short", []), (scene.springs, "waters", [])],
        "days": [(day, "of", [rights, {"a": 1}, scene.springs]), (day, "call", ["a"]), (day, "water", ["up"]),
                 (day, "calls", []), (day, "waters", []), (day, "within", [day]), (day, "with_call", ["a", 4]),
                 (day, "with_water", ["up", 4]), (day, "only", ["a"]), (day, "rained", ["up", 1]),
                 (day, "widened", ["up", 1])],
        "sharings": [(sharing, "use", ["up"]), (sharing, "cubes", []), (sharing, "lacking", [day]),
                     (sharing, "full", [day]), (sharing, "within", [sharing])],
        "promises": [(Promise("a", "b"), "said", [rights])],
        "books": [(book, "orders", []), (book, "goes_ahead", ["up", "a", "b"]), (book, "ahead_at", ["low", "b"]),
                  (book, "ranked", ["low"]), (book, "bent", [Promise("a", "b")]), (book, "moved", ["up", "a", 1]),
                  (book, "alike", [rights, ["b", "a", "d", "c"], [Promise("a", "c")]])],
        "acts": [(rounds, "now", []), (rounds, "history", []), (rounds, "amount", ["a"]), (rounds, "grade", ["a"]),
                 (rounds, "is_at_rest", [])],
        "bounds": [(met, "low", ["a"]), (met, "high", ["a"]), (met, "lows", []), (met, "highs", [])],
        "table": [(scene.table, "limit", [("weir", "up")]), (scene.table, "entry", [("weir", "up"), ("right", "a")]),
                  (standing, "figure", [("weir", "up"), ("right", "a")]), (standing, "level", [("weir", "up")]),
                  (standing, "measure", [("weir", "up")]), (standing, "pivoted", [("right", "a")])],
        "ladders": [(scene.walk.ladders, "ladder", [("weir", "up")]),
                    (scene.walk.ladders, "is_above", [("weir", "up"), ("right", "a"), ("right", "b")]),
                    (hold, "low", [("weir", "up")]), (hold, "gate_of", [scene.end[0]]),
                    (hold, "holder", [("right", "a")]), (hold, "pivoted", [scene.end[0]])],
        "walk": [(scene.walk, "is_end", [scene.end]), (scene.walk, "road", [("weir", "up"), scene.end]),
                 (scene.walk, "sharing", [scene.end]), (scene.walk, "holders", [scene.end])],
        "listing": [(listing, "places", ["a", 1])],
        "worths": [(scene.worths, "worth_of", [sharing])],
        "best": [(found, "prices", []), (found, "rents", [])],
        "trades": [(trade, "change", ["up"]), (trade, "is_simple", []), (trade, "gain", [scene.worths]),
                   (trade, "most", [day, sharing]), (trade, "done", [Sharing(rights, {"b": 3}), 2]),
                   (trade, "back", [])],
        "everyday": [(price, "cover", [])],
        "widening": [(change, "gain", ["a"]), (harm, "told", []), (harm, "played", [book])],
        "rain": [(harm, "told", [])],
        "lots": [(scene.lots, "kind_of", [1, 0]), (scene.lots, "traps", []), (scene.lots, "cheapest", [[1, 2]])],
        "tanks": [(scene.tanks, "room", ["a"]), (scene.tanks, "left", ["a", 2]), (scene.tanks, "none", [rights])],
        "entries": [(entry, "text", []) for entry in scene.entries] + [(scene.entries[4], "promise", [])],
        "gauges": [(scene.gauges, "standing", ["call", "a", 0]), (scene.gauges, "amount_of", ["call", "a", 0]),
                   (scene.gauges, "springs_on", [0]), (scene.gauges, "pledges", [1]), (scene.gauges, "knowns", []),
                   (scene.gauges, "merged", [Gauges(scene.tanks)])],
        "ledger": [(scene.ledger, "gauges", []), (scene.ledger, "book_on", [1]), (scene.ledger, "page", [1]),
                   (scene.ledger, "pages", []), (page, "bar", ["a"])],
    }
    return calls


def all_calls(scene):
    """A list of (where, callable, arguments) for everything that is called."""
    rows = []
    for stem, functions in function_calls(scene).items():
        module = importlib.import_module(f"weirkeepers.{stem}")
        rows += [((stem, name), getattr(module, name), rest) for name, rest in functions.items()]
    for stem, methods in method_calls(scene).items():
        rows += [((stem, name), getattr(thing, name), rest) for thing, name, rest in methods]
    return rows


class RulesTest(Case):
    """Point 0.3: rules for every function and method."""

    def by_name(self, call, rest):
        """The arguments by name, or None if the call takes any number of them."""
        parameters = list(inspect.signature(call).parameters.values())
        if any(row.kind == row.VAR_POSITIONAL for row in parameters):
            return None
        return dict(zip([row.name for row in parameters], rest))

    def extra(self, where):
        """The arguments that are passed by name only and may not be left out."""
        return {"gap": 2} if where == ("unrest", "rest_by") else {}

    def test_nothing_of_the_interface_is_left_out(self):
        called = {where for where, _, _ in all_calls(Scene())}
        for stem, names in INTERFACE.items():
            for name, wanted in names.items():
                rows = [name] if not isinstance(wanted, dict) else [
                    row for row, parameters in wanted.items() if not row.startswith("_") and parameters is not None]
                for row in rows:
                    thing = getattr(importlib.import_module(f"weirkeepers.{stem}"), name)
                    attribute = inspect.getattr_static(thing, row) if isinstance(wanted, dict) else None
                    if not isinstance(attribute, property) and (stem, row) not in CHANGING:
                        self.assertIn((stem, row), called)

    def test_arguments_stay_and_answers_are_new_and_alike(self):
        scene = Scene()
        for where, call, rest in all_calls(scene):
            with self.subTest(where=where):
                extra = self.extra(where)
                held = getattr(call, "__self__", None)
                kept = None if held is None or inspect.isclass(held) else vars(held)
                before = plain(rest), plain(kept)
                scene_before = plain(scene.book), plain(scene.ledger.gauges()), plain(scene.day)
                first = call(*rest, **extra)
                wanted = plain(list(first) if inspect.isgenerator(first) else first)
                if not inspect.isgenerator(first):
                    spoil(first)
                again = call(*rest, **extra)
                self.assertEqual(plain(list(again) if inspect.isgenerator(again) else again), wanted)
                names = self.by_name(call, rest)
                if names is not None:
                    third = call(**names, **extra)
                    self.assertEqual(plain(list(third) if inspect.isgenerator(third) else third), wanted)
                self.assertEqual((plain(rest), plain(kept)), before)
                self.assertEqual((plain(scene.book), plain(scene.ledger.gauges()), plain(scene.day)), scene_before)

    def test_equal_scenes_give_equal_answers(self):
        for (where, one, rest), (_, other, others) in zip(all_calls(Scene()), all_calls(Scene())):
            found = [call(*row, **self.extra(where)) for call, row in ((one, rest), (other, others))]
            self.assertEqual(*[plain(list(row) if inspect.isgenerator(row) else row) for row in found], where)

    def test_dicts_are_in_order(self):
        scene = Scene()
        names, weirs = list(scene.rights.names), list(scene.river.weirs)
        for where, call, rest in all_calls(scene):
            found = call(*rest, **self.extra(where))
            for part in found if isinstance(found, tuple) else [found]:
                if isinstance(part, dict):
                    orders = [[key for key in order if key in part] for order in (names, weirs, ["a", "b"])]
                    self.assertIn(list(part), orders, where)

    def test_the_order_of_keys_means_nothing(self):
        scene = Scene()
        for where, call, rest in all_calls(scene):
            if any(isinstance(part, dict) for part in rest):
                turned = [dict(reversed(part.items())) if isinstance(part, dict) else part for part in rest]
                self.assertEqual(plain(call(*turned)), plain(call(*rest)), where)


class NamesTest(Case):
    """Point 0.4: unknown names, of any value."""

    def test_rights(self):
        scene = Scene()
        book, day, worths = scene.book, scene.day, scene.worths
        functions = function_calls(scene)
        places = {"meetings": {"meet": 1, "met_by": 1}, "settled": {"bar": 3}, "keepers": {"heeded": 1, "offer": 3},
                  "unrest": {"tier": 1, "unrest": 1}, "worths": {"way_price": 2, "rent": 2},
                  "everyday": {"is_cover": 1, "cover_day": 1, "dearest_cover": 2}, "widening": {"widening_harm": 1},
                  "rain": {"rain_harm": 1}, "moves": {"exchanged": 1, "blockers": 1, "exchange_change": 2,
                                                      "is_raised": 2, "open_places": 2},
                  "touched": {"chain": 2, "touch_paper": 4}, "reports": {"statement": 1}}
        for stem, rows in places.items():
            for name, place in rows.items():
                call = getattr(importlib.import_module(f"weirkeepers.{stem}"), name)
                rest = functions[stem][name]
                for value in ODD_VALUES + ["up", "sea"]:
                    if value not in tuple(scene.rights):
                        self.fails(NoRight(value), call, *(rest[:place] + [value] + rest[place + 1:]))
        for value in ODD_VALUES + ["up", "sea"]:
            if value not in tuple(scene.rights):
                for call in [lambda: worths[value], lambda: scene.sharing[value], lambda: day.call(value),
                             lambda: Change(scene.sharing, scene.sharing).gain(value), lambda: scene.tanks.room(value),
                             lambda: Keeper(book, day, value), lambda: scene.ledger.page(0).bar(value),
                             lambda: deal(day, ["a", value]), lambda: meet(scene.rights, "a", value)]:
                    self.fails(NoRight(value), call)

    def test_weirs(self):
        scene = Scene()
        functions = function_calls(scene)
        places = {"keepers": {"offer": 2}, "best": {"price_range": 2}, "widening": {"widened_change": 2, "reached": 2},
                  "rain": {"rain_change": 2}, "moves": {"open_places": 1}, "touched": {"moved_at_once": 2}}
        for stem, rows in places.items():
            for name, place in rows.items():
                call = getattr(importlib.import_module(f"weirkeepers.{stem}"), name)
                rest = functions[stem][name]
                for value in ODD_VALUES + ["a", "sea", "zz"]:
                    self.fails(NoWeir(value), call, *(rest[:place] + [value] + rest[place + 1:]))

    def test_functions_for_the_first_kind(self):
        for book, kind in wrong_kinds():
            rights = book.rights
            day = Day(rights, {}, {})
            worths = Worths(rights, {name: 1 for name in rights})
            rest = {"dealing": {"first_sharing": [day]}, "verdict": {"need_first": []},
                    "everyday": {"dearest_cover": [worths, "zz"], "order_price": [worths],
                                 "most_worth_bound": [worths, Sharing(rights, {})]},
                    "widening": {"widening_harm": ["zz"], "by_widening": [], "is_widening": [None],
                                 "widened_change": [day, "zz"], "reached": [day, "zz"]},
                    "rain": {"rain_harm": ["zz"], "by_rain": [], "is_rain": [None], "rain_change": [day, "zz"],
                             "spared": []},
                    "moves": {"blockers": ["zz", "zz"], "free_pairs": [], "exchange_change": [day, "zz", "zz"],
                              "turned_pairs": [book], "exchanges": [book], "open_places": ["zz", "zz"]},
                    "touched": {"reach": [["zz"]], "chain": [["zz"], "zz"], "touched": [Tanks.none(rights), "zz", "zz"],
                                "touch_paper": [Tanks.none(rights), "zz", "zz", "zz"]}}
            for stem, rows in rest.items():
                for name, more in rows.items():
                    call = getattr(importlib.import_module(f"weirkeepers.{stem}"), name)
                    self.fails(NotFirstKind(kind), call, book, *more)


if __name__ == "__main__":
    unittest.main()
