"""Points 12 to 14: choosing a design; the examples of the interface."""

import unittest
from itertools import combinations

from cacheheld.choices import harmless, is_implied, keepers, nearest, parting, strongest, worlds_for
from cacheheld.designs import all_designs, all_worlds
from cacheheld.errors import BadDesign, BadNumber, BadPromise, BadPromises, BadWorld
from cacheheld.promises import promises
from second import is_kept
from support import CALM, ODD_VALUES, ROUGH, everywhere, nested

PLAIN = ("store drop", "always", "alone")
GUARDED = ("store drop", "token", "alone")
NAMES = promises()
WORDS = (
    ("drop store", "drop store drop", "store", "store drop", "store set"),
    ("always", "empty", "mark", "never", "newer", "token"),
    ("alone", "shared"),
)

# The promises that hold, by the second reading of point 9.
KEPT = {(design, world): frozenset(name for name in NAMES if is_kept(design, world, name))
        for design, world in everywhere()}

# No promises, each one, each two, all but one, and all.
WANTED = [wanted for many in (0, 1, 2, 9, 10) for wanted in combinations(NAMES, many)]

NO_PROMISES = ODD_VALUES + (
    "rest", b"rest", ["rest"], {"rest": True}, list(NAMES), ("Rest",), ("rest ",), ("rest", "fresh"),
    ("rest", "rest"), ("fresh", "fresh", "rest"), ("fresh", "quiet", "rest", "mended"), ("fresh", None),
    ("fresh", True), (True,), (0,), ("",), ([],), ({},), (["rest"],), (("rest",),), ("fresh", ["rest"]),
    NAMES[::-1], NAMES + ("single",), ("cold",) + NAMES, CALM, GUARDED, nested(1), nested(2), nested(90))
NO_PLACES = tuple(value for value in ODD_VALUES if type(value) is not int or value not in (0, 1, 2)) + (
    3, -2, 10 ** 50, "0", "1", b"1", (1,), [1], {1: 1}, nested(90), True, False)


def distance(design, other):
    return sum(design[place] != other[place] for place in range(3))


class ExamplesTest(unittest.TestCase):
    def test_nearest(self):
        self.assertEqual(nearest(PLAIN, CALM, ("rest",)), ("store drop", "mark", "alone"))
        self.assertIsNone(nearest(PLAIN, ROUGH, ("quiet",)))

    def test_keepers(self):
        self.assertEqual(keepers(CALM, ("filled", "linear", "moving")), (
            ("drop store drop", "mark", "alone"), ("store drop", "mark", "alone"), ("store set", "mark", "alone"),
            ("store set", "newer", "alone")))
        self.assertRaises(BadPromises, keepers, CALM, ("rest", "fresh"))

    def test_implied(self):
        self.assertEqual([is_implied(("linear",), "fresh"), is_implied(("fresh",), "rest")], [True, False])
        self.assertEqual(parting(("fresh",), "rest"),
                         (("drop store drop", "mark", "alone"), ("primary", "keeps", "stops")))

    def test_others(self):
        self.assertEqual(len(worlds_for(("store", "never", "alone"), ("linear",))), 4)
        self.assertEqual(harmless(GUARDED, CALM, 1), ("mark", "token"))
        self.assertGreater(len(strongest(CALM)), 0)


class KeepersTest(unittest.TestCase):
    def test_a_second_reading(self):
        for wanted in WANTED:
            for world in all_worlds():
                expected = [design for design in all_designs() if KEPT[design, world] >= set(wanted)]
                self.assertEqual(keepers(world, wanted), tuple(expected), (world, wanted))

    def test_no_wanted_promises(self):
        for world in all_worlds():
            self.assertEqual(keepers(world, ()), all_designs())

    def test_all_ten(self):
        for world in all_worlds():
            self.assertEqual(keepers(world, NAMES), ())

    def test_all_but_one(self):
        self.assertEqual(keepers(CALM, tuple(name for name in NAMES if name != "moving")),
                         (("store set", "mark", "shared"), ("store set", "newer", "shared")))

    def test_in_the_roughest_world(self):
        passing = [(path, "never", flight) for path in WORDS[0] if path != "store set" for flight in WORDS[2]]
        self.assertEqual(keepers(ROUGH, ("rest",)), tuple(passing))

    def test_kinds_of_what_is_returned(self):
        self.assertIs(type(keepers(CALM, ("rest",))), tuple)
        self.assertEqual({type(design) for design in keepers(CALM, ("rest",))}, {tuple})


class WorldsForTest(unittest.TestCase):
    def test_a_second_reading(self):
        for wanted in WANTED:
            for design in all_designs():
                expected = [world for world in all_worlds() if KEPT[design, world] >= set(wanted)]
                self.assertEqual(worlds_for(design, wanted), tuple(expected), (design, wanted))

    def test_no_wanted_promises(self):
        for design in all_designs():
            self.assertEqual(worlds_for(design, ()), all_worlds())

    def test_all_ten(self):
        for design in all_designs():
            self.assertEqual(worlds_for(design, NAMES), ())

    def test_some(self):
        self.assertEqual(worlds_for(("store", "never", "alone"), ("linear",)), tuple(
            ("primary", evictions, stops) for evictions in ("evicts", "keeps") for stops in ("finishes", "stops")))
        self.assertEqual(worlds_for(("store set", "newer", "shared"), ("linear", "rest")),
                         (("primary", "keeps", "finishes"), ("replica", "keeps", "finishes")))


class PartingTest(unittest.TestCase):
    def test_a_second_reading(self):
        for wanted in WANTED:
            holding = [pair for pair in sorted(KEPT) if KEPT[pair] >= set(wanted)]
            for name in NAMES:
                apart = [pair for pair in holding if name not in KEPT[pair]]
                self.assertEqual(parting(wanted, name), min(apart, default=None), (wanted, name))
                self.assertIs(is_implied(wanted, name), not apart, (wanted, name))

    def test_no_wanted_promises(self):
        self.assertEqual(parting((), "single"), (("drop store", "always", "alone"), ("primary", "evicts", "finishes")))
        self.assertEqual(parting((), "ending"), (("drop store", "always", "shared"), ("primary", "evicts", "stops")))
        self.assertEqual(parting((), "mended"), (("store", "always", "alone"), ("primary", "evicts", "finishes")))
        for name in NAMES:
            self.assertIs(is_implied((), name), False)

    def test_all_ten(self):
        for name in NAMES:
            self.assertIsNone(parting(NAMES, name))
            self.assertIs(is_implied(NAMES, name), True)

    def test_a_wanted_promise(self):
        for name in NAMES:
            self.assertIsNone(parting((name,), name))
            self.assertIs(is_implied((name,), name), True)

    def test_what_the_document_says(self):
        for wanted, name in ((("linear",), "forward"), (("linear",), "fresh"), (("forward", "fresh"), "linear"),
                             (("quiet",), "rest"), (("rest",), "mended")):
            self.assertIs(is_implied(wanted, name), True, (wanted, name))
            self.assertIsNone(parting(wanted, name))
        for wanted, name in ((("forward",), "linear"), (("fresh",), "linear"), (("fresh",), "forward"),
                             (("rest",), "quiet"), (("mended",), "rest"), (("forward",), "fresh")):
            self.assertIs(is_implied(wanted, name), False, (wanted, name))

    def test_the_least_pair(self):
        # Of a lesser world, but a greater design: ("drop store drop", "token", "shared"), without a replica.
        self.assertEqual(parting(("rest",), "fresh"),
                         (("drop store", "never", "alone"), ("replica", "evicts", "finishes")))
        self.assertEqual(parting(("fresh",), "forward"),
                         (("drop store drop", "token", "alone"), ("primary", "evicts", "finishes")))


class NearestTest(unittest.TestCase):
    def test_a_second_reading(self):
        for wanted in [wanted for wanted in WANTED if len(wanted) < 3]:
            for world in all_worlds():
                found = [design for design in all_designs() if KEPT[design, world] >= set(wanted)]
                for design in all_designs():
                    expected = min([(distance(design, other), other) for other in found], default=(0, None))[1]
                    self.assertEqual(nearest(design, world, wanted), expected, (design, world, wanted))

    def test_no_wanted_promises(self):
        for design, world in everywhere():
            self.assertEqual(nearest(design, world, ()), design)

    def test_all_ten(self):
        for design, world in everywhere():
            self.assertIsNone(nearest(design, world, NAMES))

    def test_what_holds_already(self):
        for design, world in everywhere():
            kept = tuple(name for name in NAMES if name in KEPT[design, world])
            self.assertEqual(nearest(design, world, kept), design)

    def test_the_least_of_several(self):
        # With one change also: "never", "token".
        self.assertEqual(nearest(PLAIN, CALM, ("rest",)), ("store drop", "mark", "alone"))
        # With one change also: another path, or flight "shared".
        self.assertEqual(nearest(("drop store", "newer", "alone"), CALM, ("forward",)), ("drop store", "mark", "alone"))
        # With one change also: another guard, which keeps the path but is not less.
        self.assertEqual(nearest(("drop store drop", "mark", "alone"), ("replica", "evicts", "finishes"), ("filled",)),
                         ("drop store", "mark", "alone"))

    def test_fewer_changes_before_what_is_less(self):
        self.assertEqual(keepers(ROUGH, ("rest",))[0], ("drop store", "never", "alone"))
        self.assertEqual(nearest(("store drop", "token", "shared"), ROUGH, ("rest",)),
                         ("store drop", "never", "shared"))

    def test_two_and_three_changes(self):
        self.assertEqual(nearest(("drop store drop", "never", "shared"), ("primary", "evicts", "stops"), ("filled",)),
                         ("drop store drop", "always", "alone"))
        self.assertEqual(
            nearest(("store set", "always", "shared"), ("primary", "evicts", "stops"), ("ending", "forward")),
            ("drop store", "never", "alone"))


class StrongestTest(unittest.TestCase):
    def test_a_second_reading(self):
        for world in all_worlds():
            profiles = {design: KEPT[design, world] for design in all_designs()}
            expected = [design for design in all_designs()
                        if not any(profiles[design] < kept for kept in profiles.values())]
            self.assertEqual(strongest(world), tuple(expected), world)

    def test_few(self):
        self.assertEqual(strongest(("replica", "keeps", "finishes")), (
            ("store set", "mark", "alone"), ("store set", "mark", "shared"),
            ("store set", "newer", "alone"), ("store set", "newer", "shared")))

    def test_equal_profiles_stand_side_by_side(self):
        self.assertEqual(strongest(CALM), (
            ("drop store drop", "mark", "alone"), ("store drop", "mark", "alone"), ("store set", "mark", "alone"),
            ("store set", "mark", "shared"), ("store set", "newer", "alone"), ("store set", "newer", "shared")))

    def test_not_just_the_longest_profiles(self):
        # No other design keeps these four and one more, although some keep five.
        design, world = ("drop store", "always", "alone"), ROUGH
        self.assertEqual(KEPT[design, world], {"ending", "filled", "mended", "moving"})
        self.assertEqual(max(len(KEPT[other, world]) for other in all_designs()), 5)
        self.assertIn(design, strongest(world))


class HarmlessTest(unittest.TestCase):
    def test_a_second_reading(self):
        for design, world in everywhere():
            for place in (0, 1, 2):
                others = [design[:place] + (word,) + design[place + 1:] for word in WORDS[place]]
                expected = [other[place] for other in others if KEPT[other, world] >= KEPT[design, world]]
                self.assertEqual(harmless(design, world, place), tuple(expected), (design, world, place))
                self.assertIn(design[place], expected)

    def test_each_place(self):
        self.assertEqual(harmless(GUARDED, CALM, 0), ("drop store drop", "store drop"))
        self.assertEqual(harmless(GUARDED, CALM, 1), ("mark", "token"))
        self.assertEqual(harmless(GUARDED, CALM, 2), ("alone",))

    def test_all_words(self):
        self.assertEqual(harmless(("store", "always", "alone"), ROUGH, 0), WORDS[0])
        self.assertEqual(harmless(("store", "empty", "alone"), ROUGH, 1), tuple(
            word for word in WORDS[1] if word != "never"))
        # "single" holds for the one flight alone, "moving" for the other.
        for design, world in everywhere():
            self.assertEqual(harmless(design, world, 2), (design[2],))

    def test_what_holds_must_go_on_holding_and_may_become_more(self):
        self.assertEqual(harmless(PLAIN, CALM, 1), ("always", "empty", "mark", "newer", "token"))


class WrongArgumentsTest(unittest.TestCase):
    def test_no_world(self):
        for value in ODD_VALUES + (list(CALM), CALM[:2], GUARDED, nested(90)):
            with self.subTest(value):
                self.assertRaises(BadWorld, keepers, value, ("rest",))
                self.assertRaises(BadWorld, keepers, value, None)
                self.assertRaises(BadWorld, nearest, GUARDED, value, ("rest",))
                self.assertRaises(BadWorld, nearest, GUARDED, value, None)
                self.assertRaises(BadWorld, strongest, value)
                self.assertRaises(BadWorld, harmless, GUARDED, value, 0)
                self.assertRaises(BadWorld, harmless, GUARDED, value, 3)

    def test_no_design(self):
        for value in ODD_VALUES + (list(GUARDED), GUARDED[:2], CALM, nested(90)):
            with self.subTest(value):
                self.assertRaises(BadDesign, worlds_for, value, ("rest",))
                self.assertRaises(BadDesign, worlds_for, value, None)
                self.assertRaises(BadDesign, nearest, value, CALM, ("rest",))
                self.assertRaises(BadDesign, nearest, value, None, None)
                self.assertRaises(BadDesign, harmless, value, CALM, 0)
                self.assertRaises(BadDesign, harmless, value, None, None)

    def test_no_wanted_promises(self):
        for value in NO_PROMISES:
            with self.subTest(value):
                self.assertRaises(BadPromises, keepers, CALM, value)
                self.assertRaises(BadPromises, worlds_for, GUARDED, value)
                self.assertRaises(BadPromises, parting, value, "rest")
                self.assertRaises(BadPromises, parting, value, None)
                self.assertRaises(BadPromises, is_implied, value, "rest")
                self.assertRaises(BadPromises, is_implied, value, None)
                self.assertRaises(BadPromises, nearest, GUARDED, CALM, value)

    def test_no_promise(self):
        for value in ODD_VALUES + ("Rest", "rest ", ("rest",), ["rest"], (), NAMES, b"rest", nested(90)):
            with self.subTest(value):
                self.assertRaises(BadPromise, parting, ("fresh",), value)
                self.assertRaises(BadPromise, parting, NAMES, value)
                self.assertRaises(BadPromise, parting, (), value)
                self.assertRaises(BadPromise, is_implied, ("fresh",), value)
                self.assertRaises(BadPromise, is_implied, NAMES, value)

    def test_no_place(self):
        for value in NO_PLACES:
            with self.subTest(value):
                self.assertRaises(BadNumber, harmless, GUARDED, CALM, value)

    def test_arguments_are_not_modified(self):
        names, words = ["fresh", "rest"], list(GUARDED)
        self.assertRaises(BadPromises, keepers, CALM, names)
        self.assertRaises(BadPromises, parting, names, "rest")
        self.assertRaises(BadDesign, nearest, words, CALM, names)
        self.assertEqual((names, words), (["fresh", "rest"], list(GUARDED)))


if __name__ == "__main__":
    unittest.main()
