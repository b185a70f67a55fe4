"""Points 10 and 11: short runs that break a promise, and runs that leave the cache far behind."""

import unittest

from cacheheld.errors import BadDesign, BadNumber, BadPromise, BadWorld, NotBroken
from cacheheld.promises import breaks, promises
from cacheheld.recipes import behind, breaking_run
from cacheheld.runs import is_run, operations, state
from second import broken, is_kept
from support import CALM, ODD_VALUES, ROUGH, everywhere, nested

STORE = ("store", "always", "alone")
GUARDED = ("store drop", "token", "alone")
NO_NUMBERS = tuple(value for value in ODD_VALUES if type(value) is not int or not 1 <= value <= 12) + (
    13, 14, -12, "1", "12", (1,), [1], {1: 1}, b"1", nested(90), [[1]])


class ExamplesTest(unittest.TestCase):
    def test_recipes(self):
        self.assertRaises(NotBroken, breaking_run, GUARDED, CALM, "rest")
        self.assertRaises(BadNumber, behind, GUARDED, ("primary", "keeps", "stops"), 0)
        self.assertLess(len(breaking_run(STORE, CALM, "rest")), 12)
        self.assertLess(len(behind(STORE, CALM, 12)), 61)


class BreakingRunTest(unittest.TestCase):
    def test_a_run_that_breaks_the_promise(self):
        for design, world in everywhere():
            for name in promises():
                if not is_kept(design, world, name):
                    run = breaking_run(design, world, name)
                    self.assertIs(is_run(design, world, run), True, (design, world, name, run))
                    self.assertIs(breaks(design, world, name, run), True, (design, world, name, run))
                    self.assertIn(name, broken(design, world, run), (design, world, run))
                    self.check_size(operations(design, world, run), run)

    def check_size(self, begun, run):
        kinds = [one[0] for one in begun]
        self.assertLessEqual(len(run), 11, run)
        self.assertLessEqual(kinds.count("write"), 2, run)
        self.assertLessEqual(kinds.count("read"), 3, run)

    def test_not_broken_just_where_the_promise_holds(self):
        for design, world in everywhere():
            for name in promises():
                if is_kept(design, world, name):
                    self.assertRaises(NotBroken, breaking_run, design, world, name)

    def test_the_empty_run(self):
        self.assertEqual(breaking_run(("store", "never", "alone"), CALM, "filled"), ())

    def test_kinds_of_what_is_returned(self):
        for name in ("fresh", "linear", "mended", "quiet", "rest"):
            run = breaking_run(STORE, ROUGH, name)
            self.assertIs(type(run), tuple)
            self.assertEqual({type(event) for event in run}, {tuple})
            self.assertEqual({type(event[1]) for event in run if len(event) == 2}, {int})


class BehindTest(unittest.TestCase):
    def test_so_many_versions_behind_at_rest(self):
        for design, world in everywhere():
            if not is_kept(design, world, "rest"):
                for many in range(1, 13):
                    run = behind(design, world, many)
                    self.assertIs(type(run), tuple)
                    self.assertLessEqual(len(run), 60)
                    self.assertIs(is_run(design, world, run), True, (design, world, run))
                    database, _, cache, _ = state(design, world, run)
                    self.assertIsNotNone(cache, (design, world, run))
                    self.assertEqual(database - cache, many, (design, world, run))
                    stages = {one[1] for one in operations(design, world, run)}
                    self.assertLessEqual(stages, {"ended", "stopped"}, (design, world, run))

    def test_not_broken_just_where_rest_holds(self):
        for design, world in everywhere():
            if is_kept(design, world, "rest"):
                for many in (1, 2, 12):
                    self.assertRaises(NotBroken, behind, design, world, many)


class WrongArgumentsTest(unittest.TestCase):
    def test_no_design(self):
        for value in ODD_VALUES + (list(STORE), STORE[:2], CALM, nested(90)):
            with self.subTest(value):
                self.assertRaises(BadDesign, breaking_run, value, CALM, "rest")
                self.assertRaises(BadDesign, breaking_run, value, None, None)
                self.assertRaises(BadDesign, behind, value, CALM, 1)
                self.assertRaises(BadDesign, behind, value, None, 0)

    def test_no_world(self):
        for value in ODD_VALUES + (list(CALM), CALM[:2], STORE, nested(90)):
            with self.subTest(value):
                self.assertRaises(BadWorld, breaking_run, STORE, value, "rest")
                self.assertRaises(BadWorld, breaking_run, STORE, value, None)
                self.assertRaises(BadWorld, behind, STORE, value, 1)
                self.assertRaises(BadWorld, behind, GUARDED, value, 13)

    def test_no_promise(self):
        for value in ODD_VALUES + ("Rest", "rest ", ("rest",), ["rest"], promises(), b"rest", nested(90)):
            with self.subTest(value):
                self.assertRaises(BadPromise, breaking_run, STORE, CALM, value)
                self.assertRaises(BadPromise, breaking_run, GUARDED, CALM, value)

    def test_no_number(self):
        for value in NO_NUMBERS:
            with self.subTest(value):
                self.assertRaises(BadNumber, behind, STORE, CALM, value)

    def test_no_number_comes_before_a_promise_that_holds(self):
        for value in NO_NUMBERS:
            with self.subTest(value):
                self.assertRaises(BadNumber, behind, GUARDED, CALM, value)
        self.assertRaises(NotBroken, behind, GUARDED, CALM, 1)

    def test_a_wrong_argument_comes_before_a_promise_that_holds(self):
        self.assertRaises(BadDesign, breaking_run, list(GUARDED), CALM, "rest")
        self.assertRaises(BadWorld, breaking_run, GUARDED, list(CALM), "rest")
        self.assertRaises(BadDesign, behind, list(GUARDED), CALM, 1)
        self.assertRaises(BadWorld, behind, GUARDED, list(CALM), 1)

    def test_true_and_false_are_no_numbers(self):
        for value in (True, False):
            self.assertRaises(BadNumber, behind, STORE, CALM, value)

    def test_arguments_are_not_modified(self):
        design, many = list(STORE), [1]
        self.assertRaises(BadDesign, behind, design, CALM, 1)
        self.assertRaises(BadNumber, behind, STORE, CALM, many)
        self.assertRaises(BadPromise, breaking_run, STORE, CALM, many)
        self.assertEqual((design, many), (list(STORE), [1]))

    def test_an_error_changes_nothing(self):
        before = behind(STORE, CALM, 3), breaking_run(STORE, CALM, "linear")
        self.assertRaises(BadNumber, behind, STORE, CALM, 0)
        self.assertRaises(NotBroken, breaking_run, STORE, CALM, "moving")
        self.assertEqual((behind(STORE, CALM, 3), breaking_run(STORE, CALM, "linear")), before)


if __name__ == "__main__":
    unittest.main()
