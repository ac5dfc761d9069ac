"""The names, arguments and files of the interface."""

import ast
import importlib
import inspect
import unittest
from pathlib import Path

from tests.samples import CALLS

PACKAGE = Path(__file__).resolve().parent.parent / "deadlane"

FUNCTIONS = {
    "lanes": {
        "is_lane": "(value)",
        "are_calls": "(value)",
        "called": "(lane, car)",
        "leaving": "(lane, car)",
        "after_calls": "(lane, calls)",
        "lanes_from": "(lane, calls)",
        "fixed_part": "(lane, calls)",
        "case_of": "(lane, calls)",
    },
    "days": {
        "end_lane": "(calls, case)",
        "day_map": "(calls)",
        "after_days": "(lane, calls, *, days=1)",
        "cycles_of": "(calls)",
        "period": "(lane, calls)",
        "day_before": "(lane, calls)",
        "count_before": "(lane, calls)",
    },
    "moments": {
        "lane_at": "(lane, calls, moment)",
        "next_clear": "(calls, moment)",
        "nth_clear": "(lane, calls, index)",
        "count_clear": "(lane, calls, moment)",
        "clear_cycles": "(calls)",
    },
    "crossings": {
        "crossing_in": "(calls)",
        "count_cycles": "(calls)",
        "genus": "(calls)",
        "gaps_of": "(calls)",
    },
    "plans": {
        "is_case_map": "(value)",
        "fewest_calls": "(case_map)",
        "plan_for": "(case_map)",
        "has_map": "(calls, case_map)",
        "count_plans": "(case_map, *, size)",
        "route": "(lane, target)",
    },
    "programs": {
        "is_program": "(value)",
        "count_calls": "(program)",
        "cars_of": "(program)",
        "after_program": "(lane, program)",
        "map_of": "(program)",
    },
    "counting": {
        "count_entering": "(lane, calls, *, days)",
        "count_leaving": "(lane, calls, *, days)",
        "count_forced": "(lane, calls, car, *, days)",
        "longest": "(lane, calls, *, days)",
    },
    "texts": {
        "show_lane": "(lane)",
        "read_lane": "(text)",
        "show_program": "(program)",
        "read_program": "(text)",
    },
}

CLASSES = {
    ("live", "LiveLane"): {
        "__init__": "(self, lane=())",
        "of": "(cls, *cars)",
        "lane": "(self)",
        "innermost": "(self)",
        "call": "(self, car)",
        "repeat": "(self, calls, *, days=1)",
        "run": "(self, program)",
        "undo": "(self)",
        "log": "(self)",
        "preview": "(self, *operations)",
        "has": "(self, value)",
        "__len__": "(self)",
        "__eq__": "(self, other)",
    },
    ("console", "Console"): {
        "__init__": "(self)",
        "say": "(self, row)",
    },
}

ERRORS = [
    "NoLane", "NoCar", "NoCalls", "NoCase", "NoDays", "NotEnd", "NoMoment", "NoIndex", "NoMap", "NoSize",
    "NoProgram", "Nothing", "NoOperation", "NoText", "NoRow",
]


def defined_in(name):
    tree = ast.parse((PACKAGE / f"{name}.py").read_text())
    return [node.name for node in tree.body if isinstance(node, (ast.FunctionDef, ast.ClassDef))]


class Interface(unittest.TestCase):
    def test_functions_and_their_arguments(self):
        for file, functions in FUNCTIONS.items():
            module = importlib.import_module(f"deadlane.{file}")
            for name, arguments in functions.items():
                with self.subTest(file=file, name=name):
                    self.assertIn(name, defined_in(file))
                    self.assertEqual(str(inspect.signature(getattr(module, name))), arguments)

    def test_classes_and_their_methods(self):
        for (file, name), methods in CLASSES.items():
            found = getattr(importlib.import_module(f"deadlane.{file}"), name)
            self.assertIn(name, defined_in(file))
            self.assertEqual(found.__bases__, (object,))
            for method, arguments in methods.items():
                with self.subTest(name=name, method=method):
                    held = vars(found)[method]
                    plain = getattr(held, "__func__", getattr(held, "fget", held))
                    self.assertEqual(str(inspect.signature(plain)), arguments)

    def test_kinds_of_methods(self):
        methods = vars(importlib.import_module("deadlane.live").LiveLane)
        self.assertIsInstance(methods["of"], classmethod)
        self.assertEqual([name for name in methods if isinstance(methods[name], property)], ["lane", "innermost"])
        self.assertEqual(methods["CARS"], 60)

    def test_days_are_passed_by_keyword_only(self):
        days = importlib.import_module("deadlane.days")
        with self.assertRaises(TypeError):
            days.after_days((), CALLS, 2)
        with self.assertRaises(TypeError):
            importlib.import_module("deadlane.live").LiveLane().repeat(CALLS, 2)
        counting = importlib.import_module("deadlane.counting")
        for function, arguments in [
            (counting.count_entering, ((), CALLS)), (counting.count_leaving, ((), CALLS)),
            (counting.longest, ((), CALLS)), (counting.count_forced, ((), CALLS, 1)),
        ]:
            for more in [(), (2,)]:
                with self.assertRaises(TypeError):
                    function(*arguments, *more)

    def test_sizes_are_passed_by_keyword_only(self):
        plans = importlib.import_module("deadlane.plans")
        with self.assertRaises(TypeError):
            plans.count_plans({None: None}, 2)
        with self.assertRaises(TypeError):
            plans.count_plans({None: None})


class Errors(unittest.TestCase):
    def setUp(self):
        self.errors = importlib.import_module("deadlane.errors")

    def test_they_are_defined_in_their_file(self):
        self.assertEqual(sorted(defined_in("errors")), sorted(["LaneError", *ERRORS]))

    def test_lane_error_is_a_value_error(self):
        self.assertEqual(self.errors.LaneError.__bases__, (ValueError,))

    def test_the_others_are_direct_subclasses(self):
        for name in ERRORS:
            with self.subTest(name=name):
                self.assertEqual(getattr(self.errors, name).__bases__, (self.errors.LaneError,))

    def test_they_take_a_message(self):
        for name in ["LaneError", *ERRORS]:
            with self.subTest(name=name):
                with self.assertRaises(ValueError) as caught:
                    raise getattr(self.errors, name)("what went wrong")
                self.assertEqual(str(caught.exception), "what went wrong")


if __name__ == "__main__":
    unittest.main()
