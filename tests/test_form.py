"""The form of the package: what of the rules of its language a reader of the code can check."""

import ast
import builtins
import pathlib
import unittest

PACKAGE = pathlib.Path(__file__).resolve().parent.parent / "weirkeepers"
FILES = sorted(PACKAGE.glob("*.py"))
BUILTINS = {
    "len", "range", "enumerate", "zip", "min", "max", "sum", "abs", "sorted", "reversed", "int", "str", "bool", "list",
    "tuple", "dict", "set", "isinstance", "any", "all", "divmod", "iter", "super", "property", "classmethod",
    "staticmethod", "ValueError", "TypeError", "NotImplemented",
}
METHODS = {
    "__init__", "__eq__", "__len__", "__iter__", "__contains__", "__getitem__", "__add__",
    "__call__",
}
LIBRARY = {"math": {"comb", "gcd"}}
DECORATORS = {"property", "classmethod", "staticmethod"}
BARRED = {
    "type", "typing", "enum", "Enum", "Flag", "Generic", "Protocol", "ABC", "namedtuple", "mro", "register",
    "elements", "open", "input", "law", "compile", "copyright", "dir", "eval", "exec", "exit", "gc", "globals", "help",
    "id", "license", "locals", "os", "quit", "sys", "vars",
}
ENTRY = {"__init__": "self day known number name amount", "__eq__": None, "text": "self"}
# Each file with its functions and classes; behind each method and function its parameters.
INTERFACE = {
    "errors": {
        "WeirError": {},
        "NotRiver": {"__init__": "self place"},
        "NotBook": {"__init__": "self cause weir name"},
        "NotLedger": {"__init__": "self place cause"},
    },
    "rivers": {
        "is_name": "value",
        "River": {
            "__init__": "self rows", "__len__": None, "__iter__": None, "__contains__": None, "__eq__": None,
            "rows": "self", "below": "self weir", "above": "self weir", "course": "self weir", "depth": "self weir",
            "upstream": "self weir", "is_down": "self high low", "meeting": "self one other",
            "way": "self intake last", "downward": "self"},
    },
    "rights": {
        "Rights": {
            "__init__": "self river rows", "__len__": None, "__iter__": None, "__contains__": None, "__eq__": None,
            "rows": "self", "intake": "self name", "last": "self name", "is_given_back": "self name",
            "way": "self name", "passes": "self name weir", "passing": "self weir", "begin_at": "self weir",
            "end_at": "self weir", "matrix": "self", "only": "self *names", "joined": "self row"},
    },
    "charts": {"read_chart": "text", "write_chart": "rights", "chart_table": "rights"},
    "meetings": {
        "meet": "rights one other", "met_by": "rights name", "common": "rights names", "pairs": "rights"},
    "removal": {"removal_order": "rights", "removal_fault": "rights names", "crowds": "rights"},
    "turns": {"fullest": "rights", "turns": "rights", "apart": "rights", "guards": "rights"},
    "halves": {"halves": "rights names", "weir_halves": "river weirs", "spread": "rights cubes * halvings=1"},
    "lines": {
        "line_pairs": "rights names", "line_up": "rights ahead", "goes_round": "names ahead",
        "shrunk": "rights names ahead"},
    "springs": {
        "Springs": {
            "__init__": "self river springs fish", "__add__": None, "__eq__": None, "spring": "self weir",
            "fish": "self weir", "natural": "self weir", "water": "self weir", "short": "self", "waters": "self"},
        "springs_for": "river waters",
    },
    "days": {
        "Day": {
            "__init__": "self rights calls waters * call=0 water=0", "__eq__": None, "of": "cls rights calls springs",
            "call": "self name", "water": "self weir", "calls": "self", "waters": "self", "within": "self other",
            "with_call": "self name cubes", "with_water": "self weir cubes", "only": "self *names",
            "rained": "self weir cubes", "widened": "self weir cubes"},
    },
    "sharings": {
        "Sharing": {
            "__init__": "self rights cubes", "__getitem__": None, "__len__": None, "__iter__": None, "__add__": None,
            "__eq__": None, "total": "self", "use": "self weir", "cubes": "self", "lacking": "self day",
            "full": "self day", "within": "self other"},
        "unfit": "day sharing",
        "fits": "day sharing",
    },
    "waterwalk": {"water_walk": "springs sharing"},
    "topup": {"top_up": "springs sharing"},
    "daytext": {"read_day": "rights text", "write_day": "day"},
    "promises": {"Promise": {"__init__": "self giver taker weir=None", "__eq__": None, "said": "self rights"}},
    "books": {
        "Book": {
            "__init__": "self rights orders promises=()", "__eq__": None, "orders": "self",
            "goes_ahead": "self weir one other", "ahead_at": "self weir name", "ranked": "self weir",
            "bent": "self *promises", "moved": "self weir name place", "alike": "cls rights line promises=()"},
    },
    "booktext": {"read_book": "rights text", "write_book": "book"},
    "settled": {
        "bar": "book day sharing name", "bars": "book day sharing", "open_rights": "book day sharing",
        "is_settled": "book day sharing"},
    "rings": {"rings": "book", "quarrels": "book", "is_ring": "book thing", "is_quarrel": "book thing"},
    "verdict": {
        "Kind": {}, "Verdict": {"__eq__": None}, "judge": "book", "is_line": "book thing",
        "is_two": "book day one other", "need_first": "book"},
    "dealing": {"deal": "day line", "first_sharing": "book day"},
    "keepers": {
        "heeded": "book name", "offer": "book day weir name amounts",
        "Keeper": {"__init__": "self book day name", "__call__": "self amounts"},
        "step": "book day amounts", "is_rest": "book day amounts"},
    "acts": {
        "Rounds": {
            "__init__": "self book day start", "act": "self *names ages=None", "undo": "self", "acts": "self",
            "now": "self", "history": "self", "amount": "self name age=0", "grade": "self name age=0",
            "sweeps": "self", "is_at_rest": "self"},
        "swing": "book day start * most=200",
    },
    "bounds": {
        "bounds": "book day * rounds=60",
        "Bounds": {
            "low": "self name", "high": "self name", "lows": "self", "highs": "self", "is_met": "self",
            "__contains__": None, "__eq__": None},
    },
    "unrest": {
        "tier": "book name", "calm": "book", "restless": "book", "calm_amounts": "book day",
        "rest_by": "book name * gap late=0", "Unrest": {"__eq__": None}, "unrest": "book name"},
    "table": {
        "Table": {"__init__": "self day", "__eq__": None, "limit": "self gate", "entry": "self gate column"},
        "Standing": {
            "__eq__": None, "figure": "self one column", "level": "self column", "measure": "self column",
            "is_sound": "self", "pivoted": "self column"},
        "first_standing": "table",
        "standing_of": "table columns",
    },
    "ladders": {
        "Ladders": {
            "__init__": "self book table", "__eq__": None, "ladder": "self gate", "is_above": "self gate one other"},
        "Hold": {
            "__eq__": None, "low": "self gate", "gate_of": "self column", "holder": "self column",
            "pivoted": "self column"},
        "hold_of": "ladders columns",
        "first_hold": "ladders door",
    },
    "walk": {
        "Walk": {
            "__init__": "self book day", "is_end": "self columns", "road": "self door begin=None",
            "sharing": "self columns", "holders": "self columns"},
        "Road": {"__len__": None, "__iter__": None},
        "walked": "book day * door=None",
    },
    "ends": {"ends": "book day", "paired": "book day door", "reached": "book day"},
    "knots": {
        "room": "book day", "steady": "book day", "Knot": {"__len__": None, "__contains__": None, "__eq__": None},
        "knots": "book day", "why_none": "book day"},
    "listing": {
        "settled_sharings": "book day", "how_many": "book day",
        "Listing": {
            "__init__": "self book day", "__len__": None, "__iter__": None, "__getitem__": None, "__contains__": None,
            "__eq__": None, "places": "self name cubes"},
    },
    "wheels": {
        "need_settled": "book day sharing", "wheel": "book day one other", "is_wheel": "book day one other thing"},
    "sureness": {
        "sure": "book day", "possible": "book day", "unsure": "book day",
        "best_for": "book day *names least=False", "regrets": "book day sharing", "fairest": "book day",
        "sure_table": "book day"},
    "worths": {
        "Worths": {
            "__init__": "self rights worths", "__getitem__": None, "__len__": None, "__iter__": None, "__eq__": None,
            "worth_of": "self sharing"},
        "way_price": "rights prices name", "rent": "worths prices name", "ceiling": "day worths prices"},
    "best": {
        "best": "day worths", "Best": {"prices": "self", "rents": "self", "__eq__": None},
        "flaw": "day worths sharing prices", "price_range": "day worths weir"},
    "bills": {"bill": "day worths prices sharing"},
    "trades": {
        "Trade": {
            "__init__": "self rights plus minus", "__eq__": None, "change": "self weir", "is_simple": "self",
            "gain": "self worths", "most": "self day sharing", "done": "self sharing times", "back": "self"},
        "trade": "day worths sharing", "steps": "one other"},
    "everyday": {
        "is_cover": "book name cover", "cover_day": "book name cover", "dearest_cover": "book worths name",
        "order_price": "book worths", "OrderPrice": {"cover": "self", "is_free": "self"},
        "most_worth_bound": "book worths sharing"},
    "ordercosts": {"order_cost": "book day worths"},
    "widening": {
        "Change": {
            "__init__": "self before after", "__eq__": None, "gain": "self name", "winners": "self", "losers": "self",
            "total": "self"},
        "Harm": {
            "__init__": "self harmed harmer weir beyond before after", "__eq__": None, "told": "self",
            "played": "self book"},
        "Widening": {"told": "self"},
        "widening_harm": "book name", "by_widening": "book", "is_widening": "book thing",
        "widened_change": "book day weir cubes=1", "reached": "book day weir"},
    "rain": {
        "Rain": {"told": "self"}, "rain_harm": "book name", "by_rain": "book", "is_rain": "book thing",
        "rain_change": "book day weir cubes=1", "spared": "book"},
    "twobooks": {
        "Parting": {"__init__": "self weir one other day first second", "__eq__": None},
        "differences": "book other", "agree": "book other", "parted": "book other",
        "is_difference": "book other thing", "same_on": "book other day", "turning": "book other"},
    "lots": {
        "least_lots": "book offers",
        "Lots": {
            "__len__": None, "__iter__": None, "kind_of": "self *places", "traps": "self", "is_monotone": "self",
            "cheapest": "self costs"},
        "idle": "book offers"},
    "moves": {
        "exchanged": "book one other", "blockers": "book one other", "free_pairs": "book",
        "exchange_change": "book day one other", "turned_pairs": "book other", "exchanges": "book other",
        "is_raised": "book other name", "open_places": "book weir name"},
    "tanks": {
        "Tanks": {
            "__init__": "self rights rooms", "__eq__": None, "__contains__": None, "__len__": None,
            "room": "self name", "left": "self name account released=0", "none": "rights"},
    },
    "entries": {
        "Entry": {"__init__": "self day known number", "__eq__": None, "text": "self"},
        "SpringRead": ENTRY, "FishOrder": ENTRY, "CallTold": ENTRY, "Release": ENTRY,
        "Pledge": {
            "__init__": "self day known number giver taker weir=None", "__eq__": None, "text": "self",
            "promise": "self"},
    },
    "entrytext": {"read_entries": "text", "write_entries": "entries"},
    "gauges": {
        "Gauges": {
            "__init__": "self tanks *entries", "__eq__": None, "__len__": None, "__iter__": None,
            "__contains__": None, "tell": "self *entries", "standing": "self kind name day known=None",
            "amount_of": "self kind name day known=None", "springs_on": "self day known=None",
            "pledges": "self day known=None", "knowns": "self", "merged": "self *others"},
    },
    "ledger": {
        "Ledger": {
            "__init__": "self book gauges * days=12", "tell": "self *entries", "gauges": "self",
            "book_on": "self day known=None", "page": "self day known=None", "pages": "self known=None"},
        "Page": {"__eq__": None, "bar": "self name"},
    },
    "touched": {
        "reach": "book names", "chain": "book names other", "moved_at_once": "tanks kind name",
        "touched": "book tanks kind name", "Touch": {"__eq__": None}, "Paper": {},
        "touch_paper": "book tanks kind name other * later=False"},
    "reports": {
        "statement": "ledger name known=None", "totals": "ledger known=None", "owing": "ledger known=None",
        "revision": "ledger day old new", "restated": "ledger day"},
}


def trees():
    """Each file of the package with its tree."""
    return [(path, ast.parse(path.read_text(encoding="utf-8"))) for path in FILES]


def nodes(*kinds):
    """Each node of one of these kinds, with where it stands."""
    return [(f"{path.name}:{node.lineno}", node)
            for path, tree in trees() for node in ast.walk(tree) if isinstance(node, kinds)]


def bound_names():
    """Each name that is a variable, a parameter, a function, a class or an import, with where it stands."""
    found = [(where, node.id) for where, node in nodes(ast.Name) if isinstance(node.ctx, ast.Store)]
    found += [(where, node.arg) for where, node in nodes(ast.arg)]
    found += [(where, node.name) for where, node in nodes(ast.FunctionDef, ast.ClassDef)]
    for where, node in nodes(ast.ImportFrom):
        found += [(where, alias.asname or alias.name) for alias in node.names]
    return found


class FormTest(unittest.TestCase):

    def test_the_folder_holds_plain_files_alone(self):
        for path in PACKAGE.iterdir():
            self.assertTrue(path.name == "__pycache__" or path.suffix == ".py", path)

    def test_sizes_and_characters(self):
        for path in FILES:
            text = path.read_text(encoding="utf-8")
            lines = text.split("\n")
            self.assertLessEqual(len(lines), 400, path)
            self.assertLessEqual(max(len(line) for line in lines), 120, path)
            self.assertEqual([sign for sign in text if not (sign == "\n" or " " <= sign <= "~")], [], path)
        for where, node in nodes(ast.FunctionDef):
            self.assertLessEqual(node.end_lineno - node.lineno + 1, 40, where)

    def test_imports(self):
        allowed = {f"weirkeepers.{path.stem}" for path in FILES if path.stem != "__init__"}
        defined = {f"weirkeepers.{path.stem}": set() for path in FILES} | LIBRARY
        for path, tree in trees():
            for node in tree.body:
                if isinstance(node, (ast.FunctionDef, ast.ClassDef)):
                    defined[f"weirkeepers.{path.stem}"].add(node.name)
                if isinstance(node, ast.Assign):
                    defined[f"weirkeepers.{path.stem}"].add(node.targets[0].id)
        self.assertEqual(nodes(ast.Import), [])
        for where, node in nodes(ast.ImportFrom):
            self.assertIn(node.module, allowed | set(LIBRARY), where)
            self.assertEqual(node.level, 0, where)
            for alias in node.names:
                self.assertIn(alias.name, defined[node.module], where)
                self.assertIsNone(alias.asname, where)

    def test_imports_do_not_go_round(self):
        needs = {path.stem: {node.module.split(".")[-1] for node in ast.walk(tree) if isinstance(node, ast.ImportFrom)}
                 for path, tree in trees()}
        while needs:
            free = [stem for stem in needs if not needs[stem] & set(needs)]
            self.assertTrue(free, needs)
            for stem in free:
                del needs[stem]

    def test_every_import_is_used(self):
        for path, tree in trees():
            used = {node.id for node in ast.walk(tree) if isinstance(node, ast.Name)}
            for node in ast.walk(tree):
                if isinstance(node, ast.ImportFrom):
                    self.assertEqual([alias.name for alias in node.names if alias.name not in used], [], path)

    def test_module_level(self):
        for path, tree in trees():
            for place, node in enumerate(tree.body):
                docstring = place == 0 and isinstance(node, ast.Expr) and isinstance(node.value, ast.Constant)
                kinds = (ast.ImportFrom, ast.FunctionDef, ast.ClassDef, ast.Assign)
                self.assertTrue(docstring or isinstance(node, kinds), f"{path.name}:{node.lineno}")

    def test_functions_and_classes(self):
        for where, node in nodes(ast.FunctionDef, ast.ClassDef):
            self.assertTrue(node.name in METHODS or ast.get_docstring(node) is not None, where)
            for decorator in node.decorator_list:
                self.assertIn(decorator.id, DECORATORS, where)
            if node.name.startswith("__"):
                self.assertIn(node.name, METHODS, where)

    def test_only_plain_statements_and_expressions(self):
        barred = (ast.Global, ast.Nonlocal, ast.AsyncFunctionDef, ast.Await, ast.NamedExpr, ast.Lambda,
                  ast.GeneratorExp, ast.With, ast.Match, ast.AugAssign, ast.Assert, ast.AnnAssign)
        self.assertEqual([where for where, _ in nodes(*barred)], [])
        passed = [part for _, node in nodes(ast.Call) for part in node.args if isinstance(part, ast.Starred)]
        self.assertEqual(len(passed), len(nodes(ast.Starred)))
        self.assertTrue(all(isinstance(part.value, ast.Name) for part in passed))
        for where, node in nodes(ast.Constant):
            self.assertIsInstance(node.value, (int, str, type(None)), where)
            if isinstance(node.value, str):
                self.assertNotIn("%", node.value, where)
        for where, node in nodes(ast.BinOp):
            self.assertNotIsInstance(node.op, ast.Div, where)
            if isinstance(node.op, ast.Pow):
                self.assertIsInstance(node.right, ast.Constant, where)

    def test_builtins(self):
        known = set(vars(builtins))
        for where, node in nodes(ast.Name):
            if node.id in known:
                self.assertIn(node.id, BUILTINS, where)
        for where, name in bound_names():
            self.assertNotIn(name, known | BARRED, where)
            self.assertFalse(name.startswith("__") and name not in METHODS, where)

    def test_no_local_name_hides_a_class_or_an_import(self):
        for path, tree in trees():
            outer = {alias.name for node in tree.body if isinstance(node, ast.ImportFrom) for alias in node.names}
            outer |= {node.name for node in tree.body if isinstance(node, (ast.ClassDef, ast.FunctionDef))}
            inner = {node.id for node in ast.walk(tree) if isinstance(node, ast.Name)
                     and isinstance(node.ctx, ast.Store)}
            inner |= {node.arg for node in ast.walk(tree) if isinstance(node, ast.arg)}
            self.assertEqual(inner & outer, set(), path)

    def test_is_stands_beside_none_alone(self):
        for where, node in nodes(ast.Compare):
            for sign, right in zip(node.ops, node.comparators):
                if isinstance(sign, (ast.Is, ast.IsNot)):
                    self.assertTrue(isinstance(right, ast.Constant) and right.value is None, where)

    def test_own_errors_alone_are_caught(self):
        own = {node.name for path, tree in trees() if path.stem == "errors" for node in tree.body
               if isinstance(node, ast.ClassDef)}
        for where, node in nodes(ast.Try):
            self.assertEqual(node.finalbody + node.orelse, [], where)
            for handler in node.handlers:
                self.assertIsInstance(handler.type, ast.Name, where)
                self.assertIn(handler.type.id, own, where)
                self.assertIsNone(handler.name, where)

    def test_errors_are_made_where_they_are_raised(self):
        for where, node in nodes(ast.Raise):
            self.assertIsInstance(node.exc, ast.Call, where)
            self.assertIsInstance(node.exc.func, ast.Name, where)

    def test_attributes_and_methods_have_different_names(self):
        for where, node in nodes(ast.ClassDef):
            methods = {row.name for row in node.body if isinstance(row, ast.FunctionDef)}
            stored = {thing.attr for thing in ast.walk(node)
                      if isinstance(thing, ast.Attribute) and isinstance(thing.ctx, ast.Store)}
            self.assertEqual(methods & stored, set(), where)
            self.assertEqual(len(methods), len([row for row in node.body if isinstance(row, ast.FunctionDef)]), where)

    def check_definition(self, node, wanted):
        """The node defines the function or class that the interface wants."""
        if isinstance(wanted, dict):
            self.assertIsInstance(node, ast.ClassDef)
            own = {row.name: row for row in node.body if isinstance(row, ast.FunctionDef)}
            for name, parameters in wanted.items():
                self.check_definition(own[name], parameters)
            return
        self.assertIsInstance(node, ast.FunctionDef)
        if wanted is not None:
            self.assertEqual(ast.unparse(node.args), wanted.replace(" ", ", "), node.name)

    def test_the_interface_stands_in_its_files(self):
        found = {path.stem: {node.name: node for node in tree.body if isinstance(node, (ast.FunctionDef, ast.ClassDef))}
                 for path, tree in trees()}
        for stem, names in INTERFACE.items():
            for name, wanted in names.items():
                self.check_definition(found[stem][name], wanted)


if __name__ == "__main__":
    unittest.main()
