"""Points 9 and 12: when each promise holds, and the profile of a design in a world."""

import unittest

from cacheheld.designs import all_designs, all_worlds
from cacheheld.errors import BadDesign, BadPromise, BadWorld
from cacheheld.promises import first_break, promises
from cacheheld.verdicts import holds, profile
from model import walk
from second import CONDITIONS, is_kept
from support import CALM, ODD_VALUES, ROUGH, everywhere, nested

GUARDED = ("store drop", "token", "alone")


class ExamplesTest(unittest.TestCase):
    def test_verdicts(self):
        self.assertEqual(profile(GUARDED, CALM), ("ending", "filled", "fresh", "mended", "moving", "quiet", "rest"))
        found = [holds(("store set", "newer", "alone"), (source, "keeps", "stops"), "linear")
                 for source in ("primary", "replica")]
        self.assertEqual(found, [True, True])
        found = [holds(("drop store", guard, "alone"), CALM, "rest") for guard in ("always", "mark", "never", "token")]
        self.assertEqual(found, [False, False, True, False])
        self.assertRaises(BadWorld, holds, ("store", "token", "alone"), ("primary",), "rest")


class ConditionsTest(unittest.TestCase):
    def test_a_second_reading(self):
        self.assertEqual(tuple(sorted(CONDITIONS)), promises())
        for design, world in everywhere():
            for name in promises():
                self.assertIs(holds(design, world, name), is_kept(design, world, name), (design, world, name))

    def test_what_implies_what(self):
        for design, world in everywhere():
            kept = [name for name in promises() if holds(design, world, name)]
            for name, implied in (("linear", "forward"), ("linear", "fresh"), ("quiet", "rest"), ("rest", "mended")):
                if name in kept:
                    self.assertIn(implied, kept, (design, world))
            self.assertEqual("linear" in kept, "forward" in kept and "fresh" in kept)
            self.assertNotEqual("moving" in kept, "single" in kept)

    def test_how_often_each_promise_holds(self):
        found = {name: sum(holds(design, world, name) for design, world in everywhere()) for name in promises()}
        # Counted by hand from the words of point 9, out of 480.
        self.assertEqual(found, {"ending": 360, "filled": 288, "forward": 260, "fresh": 60, "linear": 52,
                                 "mended": 400, "moving": 240, "quiet": 46, "rest": 88, "single": 240})

    def test_no_walk_breaks_a_promise_that_holds(self):
        for seed, (design, world) in enumerate(everywhere()):
            run = walk(design, world, seed + 1, 22)
            for name in profile(design, world):
                self.assertIsNone(first_break(design, world, name, run), (design, world, name, run))

    def test_no_walk_of_sixty_events_breaks_a_promise_that_holds(self):
        for seed, design in enumerate(all_designs()):
            world = all_worlds()[(seed * 5) % 8]
            run = walk(design, world, seed, 60)
            for name in profile(design, world):
                self.assertIsNone(first_break(design, world, name, run), (design, world, name, run))

    def test_kinds_of_what_is_returned(self):
        for design, world in everywhere():
            for name in promises():
                self.assertIs(type(holds(design, world, name)), bool)


class SingleConditionsTest(unittest.TestCase):
    """What each part of a condition changes, one place at a time."""

    def check(self, name, kept, lost):
        for words, expected in ((kept, True), (lost, False)):
            design, world = tuple(words[:3]), tuple(words[3:])
            self.assertIs(holds(design, world, name), expected, (name, words))

    def test_ending(self):
        self.check("ending", ("store", "always", "alone", "primary", "keeps", "stops"),
                   ("store", "always", "shared", "primary", "keeps", "stops"))
        self.check("ending", ("store", "always", "shared", "primary", "keeps", "finishes"),
                   ("store", "always", "shared", "primary", "keeps", "stops"))

    def test_filled(self):
        lost = ("store drop", "mark", "alone", "replica", "keeps", "finishes")
        self.check("filled", ("drop store", "mark", "alone", "replica", "keeps", "finishes"), lost)
        self.check("filled", ("store drop", "token", "alone", "replica", "keeps", "finishes"), lost)
        self.check("filled", ("store drop", "mark", "alone", "primary", "keeps", "finishes"), lost)
        self.check("filled", ("store", "always", "shared", "primary", "keeps", "finishes"),
                   ("store", "never", "shared", "primary", "keeps", "finishes"))
        self.check("filled", ("store", "always", "alone", "primary", "keeps", "stops"),
                   ("store", "always", "shared", "primary", "keeps", "stops"))

    def test_forward(self):
        self.check("forward", ("store", "never", "alone", "replica", "evicts", "stops"),
                   ("store set", "never", "alone", "replica", "evicts", "stops"))
        self.check("forward", ("store", "always", "shared", "replica", "evicts", "stops"),
                   ("store set", "always", "shared", "replica", "evicts", "stops"))
        self.check("forward", ("store set", "mark", "alone", "replica", "keeps", "stops"),
                   ("store set", "mark", "alone", "replica", "evicts", "stops"))
        for path in ("store", "store set"):
            self.check("forward", (path, "newer", "alone", "replica", "keeps", "stops"),
                       (path, "newer", "alone", "replica", "evicts", "stops"))
            for other in ("drop store", "drop store drop", "store drop"):
                self.check("forward", (path, "newer", "alone", "replica", "keeps", "stops"),
                           (other, "newer", "alone", "replica", "keeps", "stops"))

    def test_fresh(self):
        self.check("fresh", ("store set", "mark", "shared", "replica", "keeps", "stops"),
                   ("store set", "mark", "shared", "replica", "evicts", "stops"))
        self.check("fresh", ("store", "never", "shared", "primary", "evicts", "stops"),
                   ("store", "never", "shared", "replica", "evicts", "stops"))
        self.check("fresh", ("store drop", "token", "alone", "primary", "evicts", "stops"),
                   ("store drop", "token", "shared", "primary", "evicts", "stops"))
        self.check("fresh", ("store drop", "mark", "alone", "primary", "keeps", "stops"),
                   ("store drop", "mark", "alone", "primary", "evicts", "stops"))
        self.check("fresh", ("drop store drop", "token", "alone", "primary", "keeps", "stops"),
                   ("drop store", "token", "alone", "primary", "keeps", "stops"))

    def test_linear(self):
        self.check("linear", ("store drop", "mark", "alone", "primary", "keeps", "stops"),
                   ("store drop", "token", "alone", "primary", "keeps", "stops"))
        self.check("linear", ("store", "never", "shared", "primary", "evicts", "stops"),
                   ("store", "never", "shared", "replica", "evicts", "stops"))

    def test_mended(self):
        self.check("mended", ("store", "never", "alone", "replica", "evicts", "stops"),
                   ("store", "empty", "alone", "replica", "evicts", "stops"))
        self.check("mended", ("drop store", "empty", "alone", "replica", "evicts", "stops"),
                   ("store", "empty", "alone", "replica", "evicts", "stops"))

    def test_quiet(self):
        self.check("quiet", ("store", "never", "shared", "primary", "evicts", "stops"),
                   ("store", "never", "shared", "replica", "evicts", "finishes"))
        self.check("quiet", ("store set", "newer", "shared", "replica", "keeps", "finishes"),
                   ("store set", "newer", "shared", "replica", "keeps", "stops"))
        self.check("quiet", ("store drop", "token", "alone", "primary", "evicts", "finishes"),
                   ("store drop", "token", "shared", "primary", "evicts", "finishes"))

    def test_rest(self):
        self.check("rest", ("store", "never", "shared", "replica", "evicts", "stops"),
                   ("store set", "never", "shared", "replica", "evicts", "stops"))
        self.check("rest", ("store set", "newer", "shared", "replica", "keeps", "finishes"),
                   ("store set", "newer", "shared", "replica", "keeps", "stops"))
        self.check("rest", ("store drop", "mark", "shared", "replica", "keeps", "finishes"),
                   ("store drop", "token", "shared", "replica", "keeps", "finishes"))
        self.check("rest", ("store drop", "token", "shared", "primary", "evicts", "finishes"),
                   ("store drop", "token", "shared", "primary", "evicts", "stops"))

    def test_moving_and_single(self):
        alone = ("store", "always", "alone", "primary", "keeps", "finishes")
        shared = ("store", "always", "shared", "primary", "keeps", "finishes")
        self.check("moving", alone, shared)
        self.check("single", shared, alone)


class ProfileTest(unittest.TestCase):
    def test_just_the_promises_that_hold(self):
        for design, world in everywhere():
            self.assertEqual(profile(design, world), tuple(name for name in promises() if is_kept(design, world, name)))

    def test_ascending_tuples(self):
        for design, world in everywhere():
            found = profile(design, world)
            self.assertIs(type(found), tuple)
            self.assertEqual(found, tuple(sorted(found)))

    def test_few_and_many(self):
        self.assertEqual(profile(("store", "always", "shared"), ROUGH), ("forward", "single"))
        self.assertEqual(profile(("store", "empty", "alone"), ROUGH), ("ending", "filled", "moving"))
        self.assertEqual(profile(("store set", "mark", "alone"), CALM), (
            "ending", "filled", "forward", "fresh", "linear", "mended", "moving", "quiet", "rest"))


class WrongArgumentsTest(unittest.TestCase):
    def test_no_design(self):
        for value in ODD_VALUES + (list(GUARDED), GUARDED[:2], CALM, nested(90)):
            with self.subTest(value):
                self.assertRaises(BadDesign, holds, value, CALM, "rest")
                self.assertRaises(BadDesign, holds, value, None, None)
                self.assertRaises(BadDesign, profile, value, CALM)
                self.assertRaises(BadDesign, profile, value, value)

    def test_no_world(self):
        for value in ODD_VALUES + (list(CALM), CALM[:2], GUARDED, nested(90)):
            with self.subTest(value):
                self.assertRaises(BadWorld, holds, GUARDED, value, "rest")
                self.assertRaises(BadWorld, holds, GUARDED, value, value)
                self.assertRaises(BadWorld, profile, GUARDED, value)

    def test_no_promise(self):
        for value in ODD_VALUES + ("Rest", "rest ", ("rest",), ["rest"], promises(), b"rest", nested(90)):
            with self.subTest(value):
                self.assertRaises(BadPromise, holds, GUARDED, CALM, value)

    def test_arguments_are_not_modified(self):
        design, names = list(GUARDED), ["rest"]
        self.assertRaises(BadDesign, holds, design, CALM, "rest")
        self.assertRaises(BadDesign, profile, design, CALM)
        self.assertRaises(BadPromise, holds, GUARDED, CALM, names)
        self.assertEqual((design, names), (list(GUARDED), ["rest"]))


if __name__ == "__main__":
    unittest.main()
