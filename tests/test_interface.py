"""The chapter "The interface": names, arguments and the files in which they are defined."""

import importlib
import inspect
import unittest

ERRORS = {
    **{name: "found" for name in (
        "NoNumber", "NoName", "NoThing", "NoDeeds", "NoTests", "NoPlan", "NoSource", "NoShelf", "NoTruth", "NoList",
        "NoRow", "NoSpot", "NoWord", "NoLine", "NoPaper", "NoOrder", "Doubled", "NotThere", "NotOpen", "NotShut",
        "Begun")},
    "NoText": "at", "Fault": "name, at", "Thrown": "word", "TooMuch": "many", "Waits": "many",
}
FUNCTIONS = {
    "things": {
        "is_whole": "thing, low, high", "is_name": "thing", "is_thing": "thing", "value_of": "thing",
        "number_in": "thing, *, least=None, most=None",
    },
    "deeds": {
        "is_deeds": "thing", "is_tests": "thing", "turned_by": "deeds, thing", "tests_hold": "tests, thing",
        "tests_behind": "tests, deeds", "deeds_text": "deeds", "tests_text": "tests", "read_deeds": "thing",
        "read_tests": "thing",
    },
    "plans": {
        "is_plan": "thing", "is_leaf": "plan", "parts_of": "plan", "spots_of": "plan", "names_in": "plan",
        "nodes_in": "plan", "part_at": "plan, spot", "put_at": "plan, spot, other", "renamed": "plan, names",
    },
    "plantext": {"plan_text": "plan", "read_plan": "text"},
    "joins": {"machine_of": "plan"},
    "rows": {"row_of": "plan, shelf"},
    "plain": {"plain_told": "plan, shelf, many", "needs_told": "plan, shelf, many"},
    "runlogs": {"log_due": "plan, shelf, many", "first_unlike": "plan, shelf, many, log"},
    "orders": {
        "ends_by_turns": "plan, shelf, many, *, room=1", "shows_turns": "plan, shelf, many, thing, *, room=1",
    },
    "ahead": {
        "told_ahead": "plan, shelf, *, most=400", "round_of": "plan, shelf, *, most=400",
        "shows_round": "plan, shelf, thing", "what_matters": "plan, spot",
    },
    "rewriting": {
        "rules_at": "plan, spot", "rewritten": "plan, rule, spot", "cost_of": "plan", "cheapest": "plan, *, most=300",
        "cheapest_paper": "plan, *, most=300", "shows_cheapest": "plan, thing",
    },
    "alike": {"parted_by": "one, other", "shows_parted": "one, other, thing"},
}
CLASSES = {
    "errors": {name: {"__init__": "self, " + fields} for name, fields in ERRORS.items()},
    "sources": {"Source": {
        "__init__": "self, things, *, then=None, page=1, faults=None, close_fault=False",
        "thing": "self, number", "how_many": "self", "told": "self", "__eq__": "self, other",
    }},
    "shelves": {"Shelf": {
        "__init__": "self", "put_up": "self, name, source", "names": "self", "source": "self, name",
        "open_up": "self, name", "ask": "self, reading", "ask_lot": "self, reading, many", "shut": "self, reading",
        "place": "self, reading", "name_of": "self, reading", "is_open": "self, thing", "open_ones": "self",
        "log": "self", "told_of": "self, name", "loads": "self, name", "copied": "self", "__eq__": "self, other",
    }},
    "machines": {
        "Machine": {
            "__init__": "self", "wants": "self", "takes": "self, at, thing", "ends": "self, at", "ready": "self",
            "gives": "self", "is_over": "self", "needless": "self", "goes_on": "self, at", "held": "self",
            "sure": "self, many", "rest": "self", "twin": "self", "stands": "self", "stop": "self", "own": "self",
            "bare": "self", "lay": "self, other",
        },
        "Turned": {"__init__": "self, deeds"}, "Chosen": {"__init__": "self, tests"},
        "While": {"__init__": "self, tests"}, "Until": {"__init__": "self, tests"}, "First": {"__init__": "self, many"},
        "Skip": {"__init__": "self, many"}, "Windows": {"__init__": "self, many"},
        "Groups": {"__init__": "self, deeds"},
        "Sums": {"__init__": "self"}, "Flat": {},
    },
    "joins": {
        "Behind": {"__init__": "self"}, "Beside": {"__init__": "self", "rest": "self"}, "Merged": {"__init__": "self"},
        "Matched": {"__init__": "self, deeds, room"}, "Else": {"__init__": "self"},
    },
    "rows": {"Row": {
        "ask": "self", "throw": "self, word", "close": "self", "not_shut": "self", "is_over": "self",
        "told_many": "self", "held": "self", "asked": "self", "readings": "self", "rest": "self",
    }},
    "parted": {
        "Reader": {"__init__": "self", "ask": "self", "close": "self", "is_over": "self", "place": "self"}, "Hand": {},
        "Parted": {
            "__init__": "self, row, many, *, room=None", "hand": "self, number", "hands": "self", "held": "self",
            "told_many": "self",
        },
        "Kinds": {
            "__init__": "self, row, deeds, *, room=None", "hand": "self, kind", "kinds": "self", "held": "self",
            "waiting": "self, kind", "close": "self",
        },
    },
    "keeping": {"Kept": {
        "__init__": "self, row, *, room=None", "mark": "self", "back": "self, mark", "release": "self, mark",
        "marks": "self", "held": "self",
    }},
    "lots": {"Lots": {
        "__init__": "self, plan, shelf", "lot": "self, many", "close": "self", "not_shut": "self", "is_over": "self",
        "told_many": "self", "asked": "self", "readings": "self",
    }},
    "hands": {"Hands": {
        "__init__": "self, plan, shelf, *, room=1", "turn": "self, spot", "close": "self", "told": "self",
        "not_shut": "self", "ending": "self", "waiting": "self", "asked": "self", "run": "self, order, many",
        "copied": "self",
    }},
    "desk": {"Desk": {"__init__": "self", "say": "self, line"}},
}


def arguments(call):
    return str(inspect.signature(call))[1:-1]


class Interface(unittest.TestCase):
    def test_most_asks_and_the_rules(self):
        self.assertEqual(importlib.import_module("greatrows.rows").MOST_ASKS, 200)
        self.assertEqual(importlib.import_module("greatrows.rewriting").RULES,
                         ("none", "fuse", "choose", "cut", "pass", "count", "right"))

    def test_each_file_of_the_chapter_is_looked_at(self):
        self.assertEqual(len(set(FUNCTIONS) | set(CLASSES)), 21)

    def test_families_of_refusals(self):
        file = importlib.import_module("greatrows.errors")
        for name, above in (("PlanError", ValueError), ("Missing", KeyError), ("Barred", LookupError)):
            self.assertEqual(vars(file)[name].__bases__, (above,))

    def test_what_stands_under_another_class(self):
        for file, above, names in (
                ("machines", "Machine", "Turned Chosen While Until First Skip Windows Groups Sums Flat"),
                ("joins", "Machine", "Behind Beside Merged Matched Else"), ("parted", "Reader", "Hand"),
                ("keeping", "Reader", "Kept")):
            module = importlib.import_module("greatrows." + file)
            for name in names.split():
                self.assertTrue(issubclass(vars(module)[name], vars(module)[above]))

    def test_functions(self):
        for file, functions in FUNCTIONS.items():
            module = importlib.import_module("greatrows." + file)
            for name, told in functions.items():
                function = vars(module)[name]
                self.assertTrue(inspect.isfunction(function))
                self.assertEqual(function.__module__, module.__name__)
                self.assertEqual(arguments(function), told, name)

    def test_classes_define_their_methods_themselves(self):
        for file, classes in CLASSES.items():
            module = importlib.import_module("greatrows." + file)
            for name, methods in classes.items():
                made = vars(module)[name]
                self.assertTrue(inspect.isclass(made))
                self.assertEqual(made.__module__, module.__name__)
                for method, told in methods.items():
                    self.assertEqual(arguments(vars(made)[method]), told, f"{name}.{method}")


if __name__ == "__main__":
    unittest.main()
