"""Names, places and arguments of what the interface lists."""

import inspect
import unittest
from importlib import import_module

CLASSES = {
    "items": {"Item": {"__init__": "rank name", "before": "other", "same": "other", "__eq__": "other",
                       "__str__": ""}},
    "rows": {"Row": {
        "__init__": "items", "of": "items", "__getitem__": "at", "__setitem__": "at worth",
        "__len__": "", "listed": "", "ranks": "", "number": "rank", "blocks": "", "__contains__": "x",
        "__iter__": "", "__eq__": "other", "within": "other", "settle": "by", "trial": "",
        "attempt": "deed", "__add__": "other", "__radd__": "other", "__iadd__": "other",
        "__or__": "other", "__ror__": "other", "__ior__": "other", "__and__": "other",
        "__rand__": "other", "__iand__": "other", "__sub__": "other", "__rsub__": "other",
        "__isub__": "other", "__xor__": "other", "__rxor__": "other", "__ixor__": "other",
        "__mul__": "other", "__rmul__": "other",
    }},
    "asking": {"Test": {"__init__": "cases", "read": "text", "__str__": "", "__eq__": "other",
                        "flag_names": "", "turned": "", "__call__": "look"}},
    "parts": {name: {"__init__": arguments, "head": "", "turned": "", "__eq__": "other"}
              for name, arguments in (("Put", "side"), ("Step", "side"), ("Pairs", "side"),
                                      ("Set", "flag"), ("Clear", "flag"), ("Break", ""), ("Stop", ""),
                                      ("If", "test block other"), ("While", "test block other"))},
    "walks": {"Walk": {"__init__": "parts", "read": "text", "__str__": "", "__len__": "",
                       "__getitem__": "at", "lines": "", "__eq__": "other", "__neg__": "",
                       "__add__": "other", "__call__": "left right", "sample": "name"}},
    "plays": {"Play": {"__init__": "walk left right", "do": "", "run": "most", "events": "", "undo": "count",
                       "trial": "", "attempt": "deed"}},
    "claims": {"Claim": {"__init__": "word", "__str__": "", "__eq__": "other", "turned": "",
                         "mark": "stand mark event", "ends": "stand"}},
    "verdicts": {
        "Verdict": {"__eq__": "other", "__bool__": ""}, "Rows": {"__eq__": "other", "__bool__": ""},
        "Holds": {"__init__": "table", "__eq__": "other", "__bool__": ""},
        "Alike": {"__init__": "table", "__eq__": "other", "__bool__": ""},
        "Breaks": {"__init__": "left right", "__eq__": "other", "__bool__": ""},
        "Parted": {"__init__": "left right", "__eq__": "other", "__bool__": ""},
    },
    "books": {"Book": {"__init__": "walk", "__call__": "mode m n more_left more_right", "__getitem__": "at",
                       "entries": ""}},
    "tallies": {"Tally": {"__init__": "a b c e", "__call__": "m n", "__eq__": "other", "__add__": "other",
                          "__sub__": "other", "__mul__": "other", "__rmul__": "other", "__neg__": "",
                          "under": "other", "usual": "name"}},
    "bounds": {"Bound": {"__bool__": ""}, "Bounded": {"__init__": "c heights left right", "__bool__": ""},
               "Growing": {"__init__": "ring gain", "__bool__": ""}},
    "chains": {"Chain": {"__init__": "first walks", "__len__": "", "__call__": "rows", "longer": "walk", "tally": "numbers",
                         "steps": "rows"}},
    "desk": {"Desk": {"__init__": "walk", "__getitem__": "at", "__setitem__": "at worth", "__iadd__": "other", "edit": "edit",
                      "back": "count", "ask": "line", "run": "lines", "set_limit": "value", "trial": "", "attempt": "deed"}},
}
PROPERTIES = {
    "parts": {name: "size" for name in ("Put", "Step", "Pairs", "Set", "Clear", "Break", "Stop", "If", "While")},
    "walks": {"Walk": "flags"},
    "plays": {"Play": "put cursors compares flags over fall stand"},
    "books": {"Book": "lead cycle reach"},
    "tallies": {"Tally": "label"},
    "desk": {"Desk": "present limit"},
}
FUNCTIONS = {
    "stands": {"first_stands": "walk", "is_stand": "walk value", "moves": "walk stand", "stands": "walk"},
    "checks": {"check": "walk claim", "holds": "walk claim table", "breaks": "walk claim left right"},
    "fits": {"need_fit": "walk", "skew": "walk"},
    "tallies": {"tally_of": "walk"},
    "alike": {"alike": "one other", "shows_alike": "one other table", "shows_parted": "one other left right"},
    "bounds": {"bound": "walk count a b", "is_bounded": "walk count a b c heights", "above": "walk count a b c"},
    "idle": {"idle": "walk", "outcome_rows": "walk line truth"},
    "edits": {"edits": "walk", "edited": "walk edit", "mends": "walk claims like"},
    "modes": {"classes": "walk", "parting": "walk one other"},
}
DEFAULTS = {("idle", "outcome_rows"): {"truth": None}, ("edits", "mends"): {"like": None}}


def arguments_of(made):
    return [name for name in inspect.signature(made).parameters if name not in ("self", "cls")]


class InterfaceTests(unittest.TestCase):
    def test_classes(self):
        for file, classes in CLASSES.items():
            module = import_module(f"twoheads.{file}")
            for name, methods in classes.items():
                made = getattr(module, name)
                self.assertEqual(made.__module__, module.__name__)
                for method, arguments in methods.items():
                    self.assertIn(method, vars(made), name)
                    self.assertEqual(arguments_of(getattr(made, method)), arguments.split(), method)

    def test_functions(self):
        for file, functions in FUNCTIONS.items():
            module = import_module(f"twoheads.{file}")
            for name, arguments in functions.items():
                made = getattr(module, name)
                self.assertEqual(made.__module__, module.__name__)
                self.assertEqual(arguments_of(made), arguments.split())

    def test_properties(self):
        for file, classes in PROPERTIES.items():
            for name, properties in classes.items():
                for told in properties.split():
                    self.assertIsInstance(vars(getattr(import_module(f"twoheads.{file}"), name))[told], property)

    def test_kinds_of_methods(self):
        walks, rows, asking = [import_module(f"twoheads.{name}") for name in ("walks", "rows", "asking")]
        for made, name in ((walks.Walk, "read"), (rows.Row, "of"), (asking.Test, "read")):
            self.assertIsInstance(vars(made)[name], classmethod)
        for made, name in ((walks.Walk, "sample"), (import_module("twoheads.tallies").Tally, "usual")):
            self.assertIsInstance(vars(made)[name], staticmethod)
        for made in (walks.Walk.lines, rows.Row.blocks, import_module("twoheads.stands").moves,
                     import_module("twoheads.plays").Play.events, import_module("twoheads.chains").Chain.steps):
            self.assertTrue(inspect.isgeneratorfunction(made))

    def test_defaults(self):
        for (file, name), wanted in DEFAULTS.items():
            made = getattr(import_module(f"twoheads.{file}"), name)
            found = {told.name: told.default for told in inspect.signature(made).parameters.values()
                     if told.default is not inspect.Parameter.empty}
            self.assertEqual(found, wanted)
        self.assertEqual(inspect.signature(import_module("twoheads.edits").mends).parameters["like"].kind, inspect.Parameter.KEYWORD_ONLY)
        self.assertEqual(inspect.signature(import_module("twoheads.desk").Desk.back).parameters["count"].default, 1)
        self.assertIsNotNone(import_module("twoheads.desk").Desk.limit.fset)
        self.assertIsNone(import_module("twoheads.desk").Desk.present.fset)


if __name__ == "__main__":
    unittest.main()
