"""The interface as a whole: names, files and arguments, by place and by name in any order."""

import ast
import importlib
import inspect
import unittest
from pathlib import Path

from bymarks import errors
from bymarks.dealvalues import Deal
from bymarks.deals import linear, plain
from bymarks.desk import Watch
from bymarks.values import Marks
from tests.samples_plans import BOTH, NEW, OLD, plan_of

PACKAGE = Path(__file__).resolve().parent.parent / "bymarks"
TERM = ("or", ("class", 2, 0), ("class", 3, 0))
TWO = ("split", "h", 2, (("place", 0), ("place", 1)))
LINKS = {"a": ("h", 4, ("b", "x", "b", "x")), "b": ("h", 2, ("y", "z"))}
PLAN = plan_of([OLD, BOTH, NEW])
FAMILY = (10, ((0, 3), (5, 7)))
SEEN = [(plain(4), 3)]
DEALS = [plain(4), plain(6)]
# For each file its functions, each with the names of its arguments and values for them.
FUNCTIONS = {
    "classes": {
        "check_class": {"value": (4, 1)}, "meet": {"one": (4, 1), "other": (6, 3)}, "meet_all": {"classes": [(4, 1), (9, 2)]},
        "is_within": {"one": (12, 9), "other": (4, 1)}, "left_out": {"within": (5, 2), "classes": [(2, 0)]},
    },
    "sets": {
        "check_term": {"term": TERM}, "term_has": {"term": TERM, "mark": 3}, "classes_in": {"term": TERM},
        "term_least": {"term": TERM}, "term_parting": {"one": TERM, "other": ("all",)},
        "term_outside": {"one": TERM, "other": ("class", 2, 0)}, "term_share": {"term": TERM},
        "term_below": {"term": TERM, "n": 100}, "term_nth": {"term": TERM, "k": 10}, "term_period": {"term": TERM},
    },
    "rules": {
        "check_rule": {"rule": TWO}, "names_in": {"rule": TWO}, "place_by": {"rule": TWO, "marks": {"h": 3}},
        "rule_parting": {"one": TWO, "other": ("place", 0)}, "reaches": {"rule": TWO, "place": 1}, "needs": {"rule": TWO},
        "rule_shares": {"rule": TWO}, "rule_flow": {"one": TWO, "other": ("place", 0)},
        "rule_moved": {"one": TWO, "other": ("place", 0)},
    },
    "chains": {
        "check_chain": {"chain": LINKS}, "walk": {"chain": LINKS, "begin": "a", "marks": {"h": 6}},
        **{name: {"chain": LINKS, "begin": "a"} for name in ("ways", "ends", "ring_share", "starved", "own_marks")},
    },
    "deals": {
        "check_deal": {"deal": plain(4)}, "place_of": {"deal": plain(4), "mark": 7}, "plain": {"modulus": 4},
        "split": {"modulus": 4, "many": 2}, "linear": {"base": 4, "many": 6}, "form": {"deal": linear(4, 6)},
        "uses": {"deal": linear(4, 6)},
    },
    "runs": {
        "share": {"deal": plain(4), "place": 3}, "together": {"deals": DEALS}, "agreement": {"deals": DEALS},
        "parting": {"deals": DEALS}, "flow": {"one": plain(4), "other": plain(6), "start": 1, "end": 5},
    },
    "floors": {"sums": {"count": 5, "step": 3, "begin": 1, "by": 2}},
    "counts": {
        "below": {"families": [FAMILY], "bound": 33}, "nth": {"families": [FAMILY], "number": 7},
        "common_share": {"families": [FAMILY]},
    },
    "patterns": {
        "pattern_of": {"deals": DEALS, "mark": 5}, "patterns": {"deals": DEALS},
        "below_pattern": {"deals": DEALS, "pattern": ((0, 1),), "bound": 50},
        "nth_pattern": {"deals": DEALS, "pattern": ((0, 1),), "number": 5},
    },
    "plans": {"check_plan": {"plan": PLAN}},
    "search": {
        **{name: {"plan": PLAN, "mark": 5, "history": [("put", 0), ("read", 0)]} for name in ("deeds", "play", "judge")},
        **{name: {"plan": PLAN} for name in ("place_patterns", "verdict", "verdicts", "wrong_share")},
        "wrong_below": {"plan": PLAN, "n": 100},
    },
    "needless": {"without": {"plan": PLAN, "item": ("put", 1, 0)}, "needless": {"plan": PLAN}, "weakest": {"plan": PLAN}},
    "seen": {"known": {"sightings": SEEN}, "first_wrong": {"sightings": SEEN}, "told": {"sightings": SEEN, "deal": plain(5)}},
    "texts": {"paper_text": {"entries": [("rule", "r", TWO)]}, "read_paper": {"text": "rule r place 0"}},
}
# For each class its methods likewise.
METHODS = {
    ("values", "Marks"): {
        "of_class": {"m": 4, "r": 1}, "every": {}, "portion": {}, "first": {}, "least_period": {}, "counted": {"n": 50},
        "inside": {"other": (2, 0)},
    },
    ("dealvalues", "Deal"): {
        "plain": {"modulus": 4}, "halved": {"modulus": 4, "many": 2}, "linear": {"base": 4, "many": 6}, "__call__": {"mark": 7},
    },
    ("desk", "Watch"): {
        "enter": {"thing": "c"}, "see": {"thing": "a", "deal": plain(4), "place": 3}, "merge": {"one": "a", "other": "b"},
        "remainders": {"thing": "a"}, "where": {"thing": "a", "deal": plain(5)}, "shared": {"one": "a", "other": "b"},
        "unlike": {}, "things": {}, "undo": {},
    },
}
LISTED = {
    "Marks": """of_class every term portion first least_period counted inside each __getitem__ __contains__ __bool__ __and__
        __or__ __sub__ __xor__ __invert__ __eq__ __init__""",
    "Deal": """plain halved linear data form __call__ __eq__ __len__ __contains__ __getitem__ __and__ __xor__ __rshift__
        __lshift__ __init__""",
    "Watch": """enter see merge remainders where shared unlike __getitem__ things __contains__ __len__ undo trial __init__""",
}
ERRORS = """InvalidMark InvalidNumber TooMany InvalidClass InvalidTerm InvalidRule InvalidChain InvalidBegin InvalidDeal
    InvalidDeals InvalidPlace InvalidFamilies InvalidPattern InvalidSightings InvalidPlan InvalidHistory InvalidItem NotRight
    InvalidEntries InvalidName KnownThing UnknownThing NothingToUndo UnknownDeed CannotBe SameThing""".split()


def new_object(name):
    """An object of a class, always the same one."""
    if name == "Marks":
        return Marks(term=TERM)
    if name == "Deal":
        return Deal(data=linear(4, 6))
    watch = Watch()
    watch.enter("a")
    watch.enter("b")
    watch.see("b", plain(6), 1)
    return watch


def turned(arguments):
    """The same arguments in the opposite order."""
    return dict(reversed(list(arguments.items())))


def defined_in(path):
    """The functions and classes that a file defines, the classes with what they define."""
    found = {}
    for node in ast.parse(path.read_text(encoding="utf-8")).body:
        if isinstance(node, (ast.FunctionDef, ast.ClassDef)):
            found[node.name] = [item.name for item in node.body if isinstance(item, ast.FunctionDef)]
    return found


def shown(value):
    """What can be compared of a value."""
    if isinstance(value, Watch):
        return [(thing, value[thing]) for thing in value.things()]
    return value.term if isinstance(value, Marks) else value


class TestInterface(unittest.TestCase):

    def test_functions(self):
        for file, functions in FUNCTIONS.items():
            module = importlib.import_module(f"bymarks.{file}")
            for name, arguments in functions.items():
                with self.subTest(name):
                    self.assertIn(name, defined_in(PACKAGE / f"{file}.py"))
                    function = getattr(module, name)
                    self.assertEqual(list(inspect.signature(function).parameters), list(arguments))
                    by_place = function(*arguments.values())
                    self.assertEqual(function(**arguments), by_place)
                    self.assertEqual(function(**turned(arguments)), by_place)

    def test_methods(self):
        for (file, name), methods in METHODS.items():
            for method, arguments in methods.items():
                with self.subTest(f"{name}.{method}"):
                    by_place, by_name = new_object(name), new_object(name)
                    self.assertEqual(list(inspect.signature(getattr(by_place, method)).parameters), list(arguments))
                    one = getattr(by_place, method)(*arguments.values())
                    other = getattr(by_name, method)(**turned(arguments))
                    self.assertEqual((shown(one), shown(by_place)), (shown(other), shown(by_name)))
        self.assertEqual(new_object("Deal")(mark=7), linear(4, 6)[1][1][1] + 7)
        self.assertEqual(Deal.halved(many=2, modulus=4), Deal.halved(4, 2))
        self.assertEqual(Marks.of_class(r=1, m=4).term, ("class", 4, 1))

    def test_try_all(self):
        desk = importlib.import_module("bymarks.desk")
        self.assertEqual(list(inspect.signature(desk.try_all).parameters), ["watch", "deeds"])
        watch = new_object("Watch")
        self.assertIsNone(desk.try_all(deeds=[("enter", "c")], watch=watch))
        self.assertEqual(watch.things(), ["a", "b", "c"])
        self.assertIn("try_all", defined_in(PACKAGE / "desk.py"))

    def test_classes(self):
        for file, name in METHODS:
            methods = defined_in(PACKAGE / f"{file}.py")[name]
            self.assertLessEqual(set(LISTED[name].split()), set(methods))
        for name, kept in (("Marks", ["of_class", "every"]), ("Deal", ["plain", "halved", "linear"])):
            for method in kept:
                self.assertIsInstance(inspect.getattr_static({"Marks": Marks, "Deal": Deal}[name], method), staticmethod)
        for owner, method in ((Marks, "term"), (Deal, "data"), (Deal, "form")):
            self.assertIsInstance(inspect.getattr_static(owner, method), property)
        self.assertTrue(inspect.isgeneratorfunction(Marks.each))

    def test_errors(self):
        for name in ERRORS:
            made = getattr(errors, name)
            self.assertEqual(made.__bases__, (errors.MarkError,))
            self.assertEqual((str(made("word")), str(made())), ("word", ""))
        for wrong in (errors.InvalidLine(3, "deal"), errors.InvalidLine(reason="deal", line=3)):
            self.assertEqual((wrong.line, wrong.reason), (3, "deal"))
        self.assertTrue(issubclass(errors.MarkError, ValueError))


if __name__ == "__main__":
    unittest.main()
