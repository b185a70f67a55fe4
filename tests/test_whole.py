"""Point 1: what holds of all functions and classes of the interface."""

import ast
import importlib
import inspect
import unittest
from copy import deepcopy
from itertools import combinations
from pathlib import Path

import cacheheld
from cacheheld import errors
from cacheheld.desks import Desk
from support import CALM, ODD_VALUES, nested

PLAIN = ("store drop", "always", "alone")
GUARDED = ("store drop", "token", "alone")

# The functions of each module, with the kinds of their arguments. What is only asked about may be any value.
FUNCTIONS = {
    "designs": {"is_design": ("any",), "is_world": ("any",), "all_designs": (), "all_worlds": (),
                "write_steps": ("design",)},
    "runs": {"is_run": ("design", "world", "any"), "can_follow": ("design", "world", "run"),
             "state": ("design", "world", "run"), "operations": ("design", "world", "run")},
    "promises": {"promises": (), "breaks": ("design", "world", "promise", "run"),
                 "first_break": ("design", "world", "promise", "run")},
    "verdicts": {"holds": ("design", "world", "promise"), "profile": ("design", "world")},
    "recipes": {"breaking_run": ("design", "world", "promise"), "behind": ("design", "world", "number")},
    "choices": {"keepers": ("world", "wanted"), "worlds_for": ("design", "wanted"), "strongest": ("world",),
                "harmless": ("design", "world", "number"), "parting": ("wanted", "promise"),
                "is_implied": ("wanted", "promise"), "nearest": ("design", "world", "wanted")},
    "texts": {"write_design": ("design",), "write_world": ("world",), "write_run": ("design", "world", "run"),
              "read_design": ("design text",), "read_world": ("world text",),
              "read_run": ("design", "world", "run text")},
    "desks": {"Desk": ("design", "world")},
}

# For each kind a value that is valid, and what is raised for others.
VALID = {
    "any": None, "design": PLAIN, "world": CALM, "run": (("look", 0), ("fetch", 0)), "promise": "rest", "number": 1,
    "wanted": ("fresh", "rest"), "design text": "store, mark, shared", "world text": "primary, keeps, stops",
    "run text": "look 0\nfetch 0",
}
ERRORS = {
    "design": errors.BadDesign, "world": errors.BadWorld, "run": errors.BadRun, "promise": errors.BadPromise,
    "number": errors.BadNumber, "wanted": errors.BadPromises, "design text": errors.NotText,
    "world text": errors.NotText, "run text": errors.NotText,
}

# Values that are invalid for all kinds but "any".
INVALID = tuple(value for value in ODD_VALUES if not isinstance(value, (int, str)) or isinstance(value, bool)) + (
    (None,), (("look", 0), None), ("rest", "fresh"), ["rest"], list(PLAIN), list(CALM), nested(60))


def calls():
    """Return the triples (function, its name, the kinds of its arguments) of the interface."""
    return [(getattr(importlib.import_module("cacheheld." + module), name), name, kinds)
            for module, functions in FUNCTIONS.items() for name, kinds in functions.items()]


class InterfaceTest(unittest.TestCase):
    def test_each_is_defined_where_it_is_listed(self):
        for module, functions in FUNCTIONS.items():
            for name in functions:
                found = getattr(importlib.import_module("cacheheld." + module), name)
                self.assertEqual((found.__module__, found.__name__), ("cacheheld." + module, name))

    def test_arguments_by_position(self):
        for function, name, kinds in calls():
            given = inspect.signature(function).parameters.values()
            self.assertEqual(len(given), len(kinds), name)
            self.assertEqual([one for one in given if one.kind != one.POSITIONAL_OR_KEYWORD], [], name)

    def test_the_desk(self):
        self.assertEqual({name for name, value in vars(Desk).items() if isinstance(value, property)},
                         {"done", "broken"})
        self.assertEqual(list(inspect.signature(vars(Desk)["run"]).parameters), ["self", "line"])
        self.assertEqual(list(inspect.signature(vars(Desk)["undo"]).parameters), ["self"])

    def test_valid_arguments(self):
        for function, _, kinds in calls():
            function(*[VALID[kind] for kind in kinds])


class WrongArgumentsTest(unittest.TestCase):
    def check(self, function, kinds, wrong, values):
        """The error is that for the first wrong argument, a direct subclass of CacheError, and none is modified."""
        arguments = [values[place] if place in wrong else VALID[kind] for place, kind in enumerate(kinds)]
        before = deepcopy(arguments)
        with self.subTest(function=function.__name__, arguments=arguments):
            with self.assertRaises(errors.CacheError) as caught:
                function(*arguments)
            self.assertIs(type(caught.exception), ERRORS[kinds[min(wrong)]])
            self.assertEqual(type(caught.exception).__bases__, (errors.CacheError,))
            self.assertEqual(arguments, before)
            self.assertEqual([type(value) for value in arguments], [type(value) for value in before])

    def test_the_first_wrong_argument_counts(self):
        for function, _, kinds in calls():
            places = [place for place, kind in enumerate(kinds) if kind != "any"]
            for many in range(1, len(places) + 1):
                for wrong in combinations(places, many):
                    for first, value in enumerate(INVALID):
                        values = [INVALID[(first + place) % len(INVALID)] for place in range(len(kinds))]
                        self.check(function, kinds, wrong, values)
                        self.check(function, kinds, wrong, [value] * len(kinds))

    def test_any_value_may_be_asked_about(self):
        for function, name, kinds in calls():
            if "any" in kinds:
                for value in INVALID + ODD_VALUES:
                    arguments = [value if kind == "any" else VALID[kind] for kind in kinds]
                    before = deepcopy(arguments)
                    self.assertIs(function(*arguments), False, (name, value))
                    self.assertEqual(arguments, before)

    def test_not_broken_comes_after_all_others(self):
        for name, last in (("breaking_run", "rest"), ("behind", 1)):
            function = getattr(importlib.import_module("cacheheld.recipes"), name)
            self.assertRaises(errors.NotBroken, function, GUARDED, CALM, last)
            for wrong in INVALID:
                self.assertRaises(errors.BadDesign, function, wrong, CALM, last)
                self.assertRaises(errors.BadWorld, function, GUARDED, wrong, last)
                self.assertRaises((errors.BadPromise, errors.BadNumber), function, GUARDED, CALM, wrong)

    def test_equal_values_of_other_kinds(self):
        # Equal to 1 and 0, but no integers here.
        for value in (True, False):
            for function, _, kinds in calls():
                if "number" in kinds:
                    arguments = [value if kind == "number" else VALID[kind] for kind in kinds]
                    self.assertRaises(errors.BadNumber, function, *arguments)
        run = (("look", 0), ("store", 1), ("drop", True))
        for function, _, kinds in calls():
            if "run" in kinds:
                arguments = [run if kind == "run" else VALID[kind] for kind in kinds]
                self.assertRaises(errors.BadRun, function, *arguments)


class SourcesTest(unittest.TestCase):
    def test_the_package_imports_only_its_own_modules(self):
        for path in Path(cacheheld.__file__).parent.glob("*.py"):
            for node in ast.walk(ast.parse(path.read_text(encoding="utf-8"))):
                self.assertNotIsInstance(node, ast.Import, path)
                if isinstance(node, ast.ImportFrom):
                    self.assertTrue(node.module.startswith("cacheheld."), path)


if __name__ == "__main__":
    unittest.main()
