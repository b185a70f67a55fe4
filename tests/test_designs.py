"""Points 2 and 3: designs and worlds."""

import itertools
import unittest

from cacheheld.designs import all_designs, all_worlds, is_design, is_world, write_steps
from cacheheld.errors import BadDesign, BadWorld
from cacheheld.runs import can_follow, is_run, operations, state
from support import CALM, ODD_VALUES, nested

PATHS = ["drop store", "drop store drop", "store", "store drop", "store set"]
GUARDS = ["always", "empty", "mark", "never", "newer", "token"]
FLIGHTS = ["alone", "shared"]
PLAIN = ("store drop", "token", "alone")

NO_DESIGNS = ODD_VALUES + (
    (), ("store",), ("store", "token"), PLAIN + ("alone",), PLAIN + (None,), list(PLAIN), [PLAIN], (PLAIN,),
    {"path": "store"}, "store drop, token, alone", ("token", "store drop", "alone"), ("store drop", "alone", "token"),
    ("Store drop", "token", "alone"), ("store drop ", "token", "alone"), ("store  drop", "token", "alone"),
    ("drop", "token", "alone"), ("set", "token", "alone"), ("store set drop", "token", "alone"),
    ("store drop", "Token", "alone"), ("store drop", "", "alone"), ("store drop", "token", "together"),
    ("store drop", "token", ""), ("", "", ""),
    (("store", "drop"), "token", "alone"), ("store", "drop", "token", "alone"),
    ("store drop", ["token"], "alone"), ("store drop", "token", {"alone": True}), ([], {}, ()), (None, None, None),
    (True, False, True), (0, 1, 2), ("store drop", None, "alone"), ("store drop", "token", False), CALM,
    ("store drop", "token", nested(3)),
)
NO_WORLDS = ODD_VALUES + (
    (), ("primary",), ("primary", "keeps"), CALM + ("stops",), CALM + (None,), list(CALM), (CALM,), [CALM],
    "primary, keeps, finishes", ("keeps", "primary", "finishes"), ("primary", "finishes", "keeps"),
    ("Primary", "keeps", "finishes"), ("primary ", "keeps", "finishes"), ("primary", "keep", "finishes"),
    ("primary", "keeps", "stop"), ("replicas", "keeps", "stops"), ("", "", ""), (True, True, True), (0, 0, 0),
    (None, None, None), (["primary"], "keeps", "finishes"), ("primary", {"keeps": 1}, "finishes"),
    ("primary", "keeps", ("finishes",)), ("primary", "keeps", None), PLAIN, ("primary", "keeps", nested(3)),
)


class DesignsTest(unittest.TestCase):
    def test_all_designs(self):
        expected = tuple(sorted(itertools.product(PATHS, GUARDS, FLIGHTS)))
        self.assertEqual(all_designs(), expected)
        self.assertEqual(len(all_designs()), 60)
        self.assertEqual(all_designs()[0], ("drop store", "always", "alone"))
        self.assertEqual(all_designs()[-1], ("store set", "token", "shared"))

    def test_kinds_of_all_designs(self):
        self.assertIs(type(all_designs()), tuple)
        self.assertEqual({type(design) for design in all_designs()}, {tuple})

    def test_designs_are_designs(self):
        for design in itertools.product(PATHS, GUARDS, FLIGHTS):
            self.assertIs(is_design(design), True, design)

    def test_other_values_are_no_designs(self):
        for value in NO_DESIGNS:
            with self.subTest(value):
                self.assertIs(is_design(value), False)

    def test_write_steps(self):
        for path in PATHS:
            for guard, flight in itertools.product(GUARDS, FLIGHTS):
                self.assertEqual(write_steps((path, guard, flight)), tuple(path.split()))
        self.assertEqual(write_steps(("store", "always", "alone")), ("store",))
        self.assertEqual(write_steps(("drop store drop", "never", "shared")), ("drop", "store", "drop"))

    def test_every_function_refuses_what_is_no_design(self):
        for value in NO_DESIGNS:
            with self.subTest(value):
                self.assertRaises(BadDesign, write_steps, value)
                for function in (is_run, can_follow, state, operations):
                    self.assertRaises(BadDesign, function, value, CALM, ())


class WorldsTest(unittest.TestCase):
    def test_all_worlds(self):
        self.assertEqual(all_worlds(), (
            ("primary", "evicts", "finishes"), ("primary", "evicts", "stops"),
            ("primary", "keeps", "finishes"), ("primary", "keeps", "stops"),
            ("replica", "evicts", "finishes"), ("replica", "evicts", "stops"),
            ("replica", "keeps", "finishes"), ("replica", "keeps", "stops")))

    def test_worlds_are_worlds(self):
        for world in itertools.product(("primary", "replica"), ("evicts", "keeps"), ("finishes", "stops")):
            self.assertIs(is_world(world), True, world)

    def test_other_values_are_no_worlds(self):
        for value in NO_WORLDS:
            with self.subTest(value):
                self.assertIs(is_world(value), False)

    def test_every_function_refuses_what_is_no_world(self):
        for value in NO_WORLDS:
            with self.subTest(value):
                for function in (is_run, can_follow, state, operations):
                    self.assertRaises(BadWorld, function, PLAIN, value, ())


if __name__ == "__main__":
    unittest.main()
