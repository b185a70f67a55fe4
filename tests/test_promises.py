"""Point 8: the names of the promises, breaks and first_break for all promises, long runs, and wrong arguments."""

import unittest

from cacheheld.designs import all_designs, all_worlds
from cacheheld.errors import BadDesign, BadPromise, BadRun, BadWorld
from cacheheld.promises import breaks, first_break, promises
from cacheheld.recipes import breaking_run
from cacheheld.runs import is_run
from cacheheld.verdicts import profile
from cases import COPIED, EVICTING, PLAIN, SET, SHARED, STOPPING, STORE
from model import walk
from second import ASKED, History, broken, has_circle
from support import CALM, ODD_VALUES, ROUGH, nested, run_of

NAMES = ("ending", "filled", "forward", "fresh", "linear", "mended", "moving", "quiet", "rest", "single")
NO_PROMISES = ODD_VALUES + ("Rest", "rest ", " rest", "restful", "res", ("rest",), ["rest"], NAMES, list(NAMES),
                            {"rest": 1}, b"rest", nested(90), [nested(90)], ("rest", []))


def all_broken(design, world, run):
    """Return the tuple of the promises that a run breaks, as the package says."""
    return tuple(name for name in promises() if breaks(design, world, name, run))


def first_breaks(design, world, run):
    """Return a dict of the promises that a beginning of a run breaks, and first_break of each."""
    found = {name: first_break(design, world, name, run) for name in promises()}
    return {name: length for name, length in found.items() if length is not None}


class ExamplesTest(unittest.TestCase):
    def test_promises(self):
        late = run_of("look 0, fetch 0, store 1, drop 1, fill 0, look 2")
        self.assertEqual(len(promises()), 10)
        self.assertIs(breaks(PLAIN, CALM, "rest", late), True)
        self.assertEqual(first_break(PLAIN, CALM, "rest", late), 5)
        self.assertEqual(first_break(PLAIN, CALM, "fresh", late), 6)
        self.assertIsNone(first_break(PLAIN, CALM, "single", late))
        race = run_of("store 0, store 1, set 1, set 0")
        self.assertEqual([breaks(SET, CALM, one, race) for one in ("rest", "linear")], [True, False])
        self.assertRaises(BadPromise, breaks, PLAIN, CALM, "Rest", late)

    def test_the_names(self):
        self.assertEqual(promises(), NAMES)
        self.assertIs(type(promises()), tuple)
        self.assertEqual(promises(), tuple(sorted(promises())))


class SecondReadingTest(unittest.TestCase):
    def compare(self, design, world, run):
        self.assertEqual(all_broken(design, world, run), broken(design, world, run), (design, world, run))

    def test_no_events(self):
        for design in all_designs():
            for world in all_worlds():
                self.compare(design, world, ())
                self.assertEqual(all_broken(design, world, ()), ("filled",) if design[1] == "never" else ())

    def test_beginnings_of_walks(self):
        for seed, design in enumerate(all_designs()):
            for world in all_worlds():
                run = walk(design, world, seed + 7, 11)
                for length in (2, 4, 6, 7, 8, 9, 10, 11):
                    self.compare(design, world, run[:length])

    def test_runs_near_to_those_that_break_a_promise(self):
        for design in all_designs():
            for world in all_worlds():
                kept = profile(design, world)
                runs = [breaking_run(design, world, name) for name in NAMES if name not in kept]
                for run in {less for run in runs for less in self.without_one(run) if is_run(design, world, less)}:
                    self.compare(design, world, run)

    def test_the_two_ways_to_ask_for_an_order_agree(self):
        for seed, design in enumerate(all_designs()):
            run = walk(design, all_worlds()[seed % 8], seed + 5, 14)
            for length in (6, 10, 14):
                history = History(design, all_worlds()[seed % 8], run[:length])
                self.assertIs(has_circle(history), ASKED["linear"](history), (design, run[:length]))

    def without_one(self, run):
        return [run] + [run[:at] + run[at + 1:] for at in range(len(run))]

    def test_first_break_is_the_first_beginning_that_breaks(self):
        for seed, design in enumerate(all_designs()):
            world = all_worlds()[seed % 8]
            run = walk(design, world, seed, 9)
            found = {}
            for length in range(len(run), -1, -1):
                found.update({name: length for name in broken(design, world, run[:length])})
            self.assertEqual(first_breaks(design, world, run), found, (design, world, run))


class FirstBreakTest(unittest.TestCase):
    def test_no_beginning(self):
        self.assertEqual(first_breaks(PLAIN, CALM, run_of("store 0, drop 0, look 1, fetch 1, fill 1")), {})
        self.assertEqual(first_breaks(PLAIN, CALM, ()), {})

    def test_the_empty_beginning(self):
        passing = ("store", "never", "alone")
        self.assertEqual(first_breaks(passing, CALM, ()), {"filled": 0})
        self.assertEqual(first_breaks(passing, CALM, run_of("look 0, fetch 0, store 1")), {"filled": 0})
        self.assertEqual(first_breaks(("store set", "never", "alone"), CALM, run_of("store 0, set 0")), {"filled": 0})

    def test_a_beginning_in_the_middle(self):
        run = run_of("look 0, fetch 0, store 1, fill 0, look 2, store 3")
        self.assertEqual(first_breaks(STORE, CALM, run), {"fresh": 5, "linear": 5, "mended": 4, "quiet": 5, "rest": 4})

    def test_only_the_whole(self):
        self.assertEqual(first_breaks(STORE, CALM, run_of("look 0, fetch 0, fill 0")), {"mended": 3})
        self.assertEqual(first_breaks(STORE, CALM, run_of("look 0, fetch 0")), {})
        self.assertEqual(first_breaks(SHARED, STOPPING, run_of("look 0, stop 0")), {"filled": 2})
        self.assertEqual(first_breaks(SHARED, STOPPING, run_of("look 0, stop 0, look 1")),
                         {"ending": 3, "filled": 2, "moving": 3})
        run = run_of("look 0, fetch 0, store 1, drop 1, look 2, fetch 2, fill 2, fill 0, look 3")
        self.assertEqual(first_break(PLAIN, CALM, "forward", run), 9)
        self.assertIsNone(first_break(PLAIN, CALM, "forward", run[:8]))

    def test_a_beginning_and_not_the_whole(self):
        for design, world, name, text, length in (
                (SHARED, STOPPING, "ending", "look 0, look 1, stop 0, stop 1", 3),
                (SHARED, STOPPING, "filled", "look 0, stop 0, look 1", 2),
                (STORE, CALM, "forward",
                 "look 0, fetch 0, store 1, look 2, fetch 2, fill 2, fill 0, look 3, store 4", 8),
                (STORE, CALM, "fresh", "look 0, fetch 0, fill 0, store 1, look 2, store 3", 5),
                (STORE, EVICTING, "mended", "look 0, fetch 0, fill 0, evict", 3),
                (SHARED, CALM, "moving", "look 0, look 1, fetch 0, fill 0", 2),
                (STORE, EVICTING, "quiet", "look 0, fetch 0, fill 0, store 1, look 2, evict", 5),
                (STORE, EVICTING, "rest", "look 0, fetch 0, fill 0, store 1, evict", 4),
                (PLAIN, CALM, "single", "look 0, look 1, fetch 0, fill 0", 2)):
            with self.subTest(name):
                run = run_of(text)
                self.assertIs(breaks(design, world, name, run), False)
                self.assertEqual(first_break(design, world, name, run), length)
                self.assertIs(breaks(design, world, name, run[:length]), True)
                self.assertIsNone(first_break(design, world, name, run[:length - 1]))

    def test_the_first_of_several(self):
        run = run_of("look 0, look 1, fetch 0, fill 0, evict, look 2, fetch 2, fill 2, fetch 1, fill 1")
        self.assertEqual(first_break(STORE, EVICTING, "single", run), 2)
        self.assertEqual(first_break(STORE, EVICTING, "mended", run), 10)

    def test_kinds_of_what_is_returned(self):
        for name in NAMES:
            self.assertIs(type(breaks(PLAIN, CALM, name, ())), bool)
            self.assertIsNone(first_break(PLAIN, CALM, name, ()))
        self.assertIs(type(first_break(("store", "never", "alone"), CALM, "filled", ())), int)
        self.assertIs(type(first_break(PLAIN, CALM, "single", run_of("look 0, look 1"))), int)


class SixtyEventsTest(unittest.TestCase):
    def check(self, design, world, run, found):
        self.assertEqual(len(run), 60)
        self.assertEqual(first_breaks(design, world, run), found)
        history = History(design, world, run)
        for name in NAMES:
            expected = has_circle(history) if name == "linear" else ASKED[name](history)
            self.assertIs(breaks(design, world, name, run), expected, name)
        self.assertRaises(BadRun, breaks, design, world, "rest", run + run[-1:])
        self.assertRaises(BadRun, first_break, design, world, "rest", run + run[-1:])

    def test_sixty_writes(self):
        self.check(STORE, CALM, tuple(("store", number) for number in range(60)), {})
        self.check(SET, STOPPING, tuple(("store", number) for number in range(60)), {})

    def test_sixty_reads(self):
        looks = tuple(("look", number) for number in range(60))
        self.check(PLAIN, CALM, looks, {"single": 2})
        self.check(SHARED, CALM, looks, {"moving": 2})
        self.check(SHARED, STOPPING, looks[:59] + (("stop", 0),), {"ending": 60, "moving": 2})
        hits = tuple(("look", number) for number in range(1, 58))
        self.check(PLAIN, CALM, run_of("look 0, fetch 0, fill 0") + hits, {})
        takes = run_of("look 0") + tuple(("look", number) for number in range(1, 30)) + run_of("fetch 0, fill 0")
        takes += tuple(("take", number) for number in range(28, 0, -1))
        self.check(("store", "mark", "shared"), CALM, takes, {"moving": 2})

    def test_reads_side_by_side_and_writes_one_after_the_other(self):
        run = tuple(("look", number) for number in range(15))
        for number in range(15):
            run += (("store", 15 + number), ("fetch", number))
        run += tuple(("fill", number) for number in reversed(range(15)))
        self.check(STORE, CALM, run, {"mended": 60, "rest": 60, "single": 2})

    def test_reads_side_by_side_and_one_more(self):
        run = tuple(("look", number) for number in range(14))
        for number in range(14):
            run += (("store", 14 + number), ("fetch", number))
        run += tuple(("fill", number) for number in reversed(range(14)))
        run += tuple(("look", number) for number in range(28, 32))
        self.check(STORE, CALM, run, {"forward": 57, "fresh": 57, "linear": 57, "mended": 56, "quiet": 57, "rest": 56,
                                      "single": 2})

    def test_old_versions_set_one_after_the_other(self):
        run = tuple(("store", number) for number in range(15))
        for number in reversed(range(15)):
            run += (("set", number), ("look", 43 - 2 * number), ("look", 44 - 2 * number))
        self.check(SET, CALM, run, {"forward": 20, "fresh": 20, "quiet": 59, "rest": 58})

    def test_a_version_that_comes_back(self):
        run = run_of("store 0, look 1, fetch 1, fill 1") + tuple(("store", number) for number in range(2, 15))
        for number in reversed(range(2, 15)):
            run += (("set", number), ("look", 43 - 2 * number), ("look", 44 - 2 * number))
        run += run_of("set 0, look 41, look 42, look 43")
        self.check(SET, CALM, run, {"forward": 22, "fresh": 22, "linear": 58, "quiet": 58, "rest": 57})

    def test_hits_between_writes(self):
        run = run_of("look 0, fetch 0, fill 0")
        for number in range(1, 57, 2):
            run += (("store", number), ("look", number + 1))
        self.check(STORE, CALM, run + (("store", 57),), {"fresh": 5, "linear": 5, "mended": 3, "quiet": 5, "rest": 4})

    def test_a_replica_far_behind(self):
        run = tuple(("store", number) for number in range(20))
        run += run_of("look 20, fetch 20, fill 20") + (("copy",),) * 20
        run += tuple(("look", number) for number in range(21, 38))
        self.check(STORE, COPIED, run, {"fresh": 23, "linear": 23, "mended": 23, "quiet": 23, "rest": 23})

    def test_operations_that_stop(self):
        run = ()
        for number in range(0, 30, 2):
            run += (("look", number), ("stop", number), ("store", number + 1), ("stop", number + 1))
        self.check(PLAIN, STOPPING, run, {})
        self.check(SHARED, ROUGH, run[:56] + run_of("look 28, copy, look 29, copy"),
                   {"ending": 5, "filled": 2, "moving": 5})

    def test_walks(self):
        for seed, design in enumerate(all_designs()):
            world = all_worlds()[(seed + 3) % 8]
            run = walk(design, world, seed + 11, 60)
            history = History(design, world, run)
            expected = [name for name in NAMES if (has_circle if name == "linear" else ASKED[name])(history)]
            self.assertEqual(list(all_broken(design, world, run)), expected, (design, world, run))


class WrongArgumentsTest(unittest.TestCase):
    run_of_one = run_of("look 0")

    def both(self, error, *arguments):
        self.assertRaises(error, breaks, *arguments)
        self.assertRaises(error, first_break, *arguments)

    def index_of(self, *arguments):
        found = []
        for function in (breaks, first_break):
            with self.assertRaises(BadRun) as caught:
                function(*arguments)
            found.append(caught.exception.index)
        self.assertEqual(found[0], found[1])
        return found[0]

    def test_no_design(self):
        for value in ODD_VALUES + (list(PLAIN), PLAIN[:2], CALM, nested(90)):
            with self.subTest(value):
                self.both(BadDesign, value, CALM, "rest", ())
                self.both(BadDesign, value, None, None, None)

    def test_no_world(self):
        for value in ODD_VALUES + (list(CALM), CALM[:2], PLAIN, nested(90)):
            with self.subTest(value):
                self.both(BadWorld, PLAIN, value, "rest", ())
                self.both(BadWorld, PLAIN, value, value, value)

    def test_no_promise(self):
        for value in NO_PROMISES:
            with self.subTest(value):
                self.both(BadPromise, PLAIN, CALM, value, self.run_of_one)
                self.both(BadPromise, PLAIN, CALM, value, None)
                self.both(BadPromise, PLAIN, CALM, value, [])

    def test_no_run(self):
        for name in NAMES:
            for value in ODD_VALUES + ([("look", 0)], (("look", 0),) * 61):
                with self.subTest(value):
                    self.assertIsNone(self.index_of(PLAIN, CALM, name, value))
            for value in ODD_VALUES + (["look", 0], ("look", False), nested(90), ("look", [])):
                with self.subTest(value):
                    self.assertEqual(self.index_of(PLAIN, CALM, name, (value,)), 0)
                    self.assertEqual(self.index_of(PLAIN, CALM, name, (("look", 0), value)), 1)
            self.assertEqual(self.index_of(PLAIN, CALM, name, (("look", 0), ("fetch", False))), 1)
            self.assertEqual(self.index_of(PLAIN, CALM, name, (("look", 0), ("look", True))), 1)

    def test_a_run_that_cannot_go_on_after_its_first_break(self):
        run = run_of("look 0, look 1, fill 0")
        self.assertEqual(self.index_of(PLAIN, CALM, "single", run), 2)
        self.assertEqual(self.index_of(("store", "never", "alone"), CALM, "filled", (None,)), 0)

    def test_arguments_are_not_modified(self):
        item, run = ["look", 0], [("look", 0)]
        self.both(BadRun, PLAIN, CALM, "rest", (("look", 0), item))
        self.both(BadRun, PLAIN, CALM, "rest", run)
        self.both(BadPromise, PLAIN, CALM, item, run)
        self.assertEqual((item, run), (["look", 0], [("look", 0)]))

    def test_an_error_changes_nothing(self):
        run = run_of("look 0, fetch 0, store 1, drop 1, fill 0")
        before = first_breaks(PLAIN, CALM, run)
        self.both(BadRun, PLAIN, CALM, "rest", run + run)
        self.both(BadPromise, PLAIN, CALM, "Rest", run)
        self.assertEqual(first_breaks(PLAIN, CALM, run), before)


if __name__ == "__main__":
    unittest.main()
