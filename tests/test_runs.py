"""Point 7: runs, what can follow them, and wrong arguments; the examples of the interface."""

import unittest

from cacheheld.errors import BadDesign, BadRun, BadWorld
from cacheheld.designs import all_designs, all_worlds, is_design, is_world, write_steps
from cacheheld.runs import can_follow, is_run, operations, state
from support import CALM, ODD_VALUES, ROUGH, nested, run_of

PLAIN = ("store drop", "always", "alone")
LATE = (("look", 0), ("fetch", 0), ("store", 1), ("drop", 1), ("fill", 0))
STORE = ("store", "always", "alone")
SIXTY = tuple(("store", number) for number in range(60))


def index_of(design, world, run):
    """Return the index of the BadRun that all functions raise for a run, "none" if they raise none."""
    found = []
    for function in (can_follow, state, operations):
        try:
            function(design, world, run)
            found.append("none")
        except BadRun as error:
            found.append(error.index)
    assert found[0] == found[1] == found[2], found
    assert is_run(design, world, run) is (found[0] == "none")
    return found[0]


class ExamplesTest(unittest.TestCase):
    def test_designs(self):
        found = [len(all_designs()), len(all_worlds()), is_design(("store drop", "token", "alone")),
                 is_world(("primary", "keeps")), write_steps(("drop store drop", "never", "shared"))]
        self.assertEqual(found, [60, 8, True, False, ("drop", "store", "drop")])
        self.assertRaises(BadDesign, write_steps, ("drop", "never", "alone"))

    def test_runs(self):
        self.assertEqual(state(PLAIN, CALM, LATE), (1, 0, 0, 0))
        self.assertEqual(operations(PLAIN, CALM, LATE[:3]), (("read", "fill", 0), ("write", "drop", 1)))
        self.assertEqual(can_follow(PLAIN, CALM, LATE[:3]), (("drop", 1), ("fill", 0), ("look", 2), ("store", 2)))
        self.assertEqual(state(("store drop", "mark", "alone"), CALM, LATE), (1, 0, None, 1))
        self.assertIs(is_run(PLAIN, CALM, LATE[1:]), False)
        self.assertRaises(BadRun, state, PLAIN, CALM, (("look", 0), ("fill", 0)))


class NoEventsTest(unittest.TestCase):
    def test_everywhere(self):
        for design in all_designs():
            for world in all_worlds():
                self.assertIs(is_run(design, world, ()), True)
                self.assertEqual(state(design, world, ()), (0, 0, None, 0))
                self.assertEqual(operations(design, world, ()), ())
                first = write_steps(design)[0]
                self.assertEqual(can_follow(design, world, ()), tuple(sorted([("look", 0), (first, 0)])))


class LengthTest(unittest.TestCase):
    def test_sixty_events(self):
        self.assertEqual(index_of(STORE, CALM, SIXTY), "none")
        self.assertEqual(state(STORE, CALM, SIXTY), (60, 0, None, 0))
        self.assertEqual(operations(STORE, CALM, SIXTY)[59], ("write", "ended", 60))
        self.assertEqual(can_follow(STORE, CALM, SIXTY), (("look", 60), ("store", 60)))

    def test_fifty_nine_events(self):
        self.assertEqual(index_of(STORE, CALM, SIXTY[:59]), "none")

    def test_sixty_one_events(self):
        self.assertEqual(index_of(STORE, CALM, SIXTY + (("store", 60),)), None)

    def test_too_long_comes_before_what_cannot_come(self):
        self.assertEqual(index_of(STORE, CALM, (None,) + SIXTY), None)
        self.assertEqual(index_of(STORE, CALM, (None,) * 61), None)

    def test_last_of_sixty_cannot_come(self):
        self.assertEqual(index_of(STORE, CALM, SIXTY[:59] + (("store", 60),)), 59)


class WrongRunTest(unittest.TestCase):
    def test_no_tuple(self):
        for value in ODD_VALUES:
            with self.subTest(value):
                self.assertEqual(index_of(PLAIN, CALM, value), None)

    def test_lists_for_tuples(self):
        self.assertEqual(index_of(PLAIN, CALM, list(LATE)), None)
        self.assertEqual(index_of(PLAIN, CALM, (["look", 0],)), 0)
        self.assertEqual(index_of(PLAIN, CALM, (("look", 0), ["fetch", 0])), 1)
        self.assertEqual(index_of(PLAIN, ROUGH, (("look", 0), ["stop", 0])), 1)
        self.assertEqual(index_of(PLAIN, ROUGH, (("store", 0), ["copy"])), 1)

    def test_items_of_other_kinds(self):
        for value in ODD_VALUES:
            with self.subTest(value):
                self.assertEqual(index_of(PLAIN, CALM, (value,)), 0)
                self.assertEqual(index_of(PLAIN, CALM, (("look", 0), value, ("fetch", 0))), 1)
                number_fits = type(value) is int and value == 0
                self.assertEqual(index_of(PLAIN, CALM, (("look", value),)), "none" if number_fits else 0)
                self.assertEqual(index_of(PLAIN, CALM, ((value, 0),)), "none" if value == "look" else 0)

    def test_an_event_is_no_run(self):
        self.assertEqual(index_of(PLAIN, CALM, ("look", 0)), 0)
        self.assertEqual(index_of(PLAIN, ROUGH, ("copy",)), 0)

    def test_unhashable_and_nested_items(self):
        for item in (("look", []), ("look", {}), ("look", [0]), ("look", (0,)), (["look"], 0), ({"look": 0}, 0),
                     ([], []), (("look", 0),), nested(1), nested(2), nested(90), ("look", nested(90))):
            with self.subTest(item):
                self.assertEqual(index_of(PLAIN, CALM, (item,)), 0)
                self.assertEqual(index_of(PLAIN, CALM, (("look", 0), item)), 1)

    def test_events_of_a_wrong_length(self):
        for item in ((), ("look",), ("look", 0, 0), ("look", 0, None), (0, "look"), ("store",), ("look 0",)):
            with self.subTest(item):
                self.assertEqual(index_of(PLAIN, CALM, (item,)), 0)
        begun = run_of("store 0")
        self.assertEqual(index_of(PLAIN, ROUGH, begun + (("copy",),)), "none")
        self.assertEqual(index_of(PLAIN, ROUGH, begun + (("stop", 0),)), "none")
        for item in (("copy", 0), ("copy", 1), ("evict", 0), ("stop",), ("copy", None), ("stop", 0, 0)):
            with self.subTest(item):
                self.assertEqual(index_of(PLAIN, ROUGH, begun + (item,)), 1)

    def test_true_and_false_are_no_numbers(self):
        self.assertEqual(index_of(PLAIN, CALM, (("look", False),)), 0)
        self.assertEqual(index_of(PLAIN, CALM, (("store", False),)), 0)
        self.assertEqual(index_of(PLAIN, CALM, (("look", 0), ("fetch", False))), 1)
        self.assertEqual(index_of(PLAIN, CALM, (("look", 0), ("look", True))), 1)
        self.assertEqual(index_of(PLAIN, CALM, (("look", 0), ("store", 1), ("drop", True))), 2)
        self.assertEqual(index_of(PLAIN, ROUGH, (("look", 0), ("stop", False))), 1)
        self.assertEqual(index_of(PLAIN, ROUGH, (("look", 0), ("look", 1), ("stop", True))), 2)

    def test_numbers_out_of_range(self):
        for number in (-1, -2, 1, 2, 10 ** 5000, -10 ** 5000):
            for word in ("look", "fetch", "store", "drop", "stop"):
                self.assertEqual(index_of(PLAIN, ROUGH, ((word, number),)), 0)
        for number in (-1, -2, 2, 60):
            for word in ("look", "fetch", "store", "drop", "stop"):
                self.assertEqual(index_of(PLAIN, ROUGH, run_of("look 0") + ((word, number),)), 1)

    def test_unknown_words(self):
        for word in ("", "Look", "look ", " look", "read", "begin", "stops", "evicts", "copies", "waits", "ended"):
            self.assertEqual(index_of(PLAIN, ROUGH, ((word, 0),)), 0)
            self.assertEqual(index_of(PLAIN, ROUGH, run_of("look 0") + ((word, 0),)), 1)
            self.assertEqual(index_of(PLAIN, ROUGH, ((word,),)), 0)

    def test_the_first_item_that_cannot_come(self):
        self.assertEqual(index_of(PLAIN, CALM, LATE[1:]), 0)
        self.assertEqual(index_of(PLAIN, CALM, LATE[:1] + LATE[2:]), 3)
        self.assertEqual(index_of(PLAIN, CALM, LATE[:2] + LATE[3:]), 2)
        self.assertEqual(index_of(PLAIN, CALM, LATE + (("fill", 0),)), 5)
        self.assertEqual(index_of(PLAIN, CALM, LATE[:2] + (None, 1, [])), 2)


class ErrorOrderTest(unittest.TestCase):
    def test_the_first_wrong_argument_counts(self):
        for function in (is_run, can_follow, state, operations):
            with self.subTest(function.__name__):
                self.assertRaises(BadDesign, function, None, None, None)
                self.assertRaises(BadDesign, function, CALM, PLAIN, LATE)
                self.assertRaises(BadDesign, function, list(PLAIN), CALM, None)
                self.assertRaises(BadDesign, function, PLAIN[:2], list(CALM), LATE)
                self.assertRaises(BadWorld, function, PLAIN, None, None)
                self.assertRaises(BadWorld, function, PLAIN, list(CALM), (None,))
                self.assertRaises(BadWorld, function, PLAIN, PLAIN, LATE)

    def test_an_error_changes_nothing(self):
        before = can_follow(PLAIN, CALM, LATE)
        self.assertRaises(BadRun, can_follow, PLAIN, CALM, LATE + (("drop", 1),))
        self.assertEqual(can_follow(PLAIN, CALM, LATE), before)

    def test_arguments_are_not_modified(self):
        item = ["look", 0]
        run = (item, {"look": [0]})
        for function in (can_follow, state, operations):
            self.assertRaises(BadRun, function, PLAIN, CALM, run)
        self.assertIs(is_run(PLAIN, CALM, run), False)
        self.assertEqual(run, (["look", 0], {"look": [0]}))
        self.assertEqual(item, ["look", 0])
        words = ["store", "always", "alone"]
        self.assertRaises(BadDesign, state, words, CALM, run)
        self.assertEqual(words, ["store", "always", "alone"])


class CanFollowTest(unittest.TestCase):
    def test_ascending_as_tuples(self):
        design = ("drop store", "mark", "alone")
        run = run_of("drop 0, store 0, look 1, fetch 1, look 2, drop 3, drop 4, fill 1, look 5")
        self.assertEqual(can_follow(design, ROUGH, run), (
            ("copy",), ("drop", 6), ("evict",), ("fetch", 2), ("look", 6), ("stop", 2), ("stop", 3), ("stop", 4),
            ("store", 3), ("store", 4)))

    def test_numbers_ascend_as_numbers(self):
        design = ("store drop", "always", "alone")
        run = tuple(("store", number) for number in range(12))
        drops = tuple(("drop", number) for number in range(12))
        self.assertEqual(can_follow(design, CALM, run), drops + (("look", 12), ("store", 12)))

    def test_a_new_write_and_a_step_with_the_same_word(self):
        design = ("drop store drop", "always", "alone")
        run = run_of("drop 0, store 0")
        self.assertEqual(can_follow(design, CALM, run), (("drop", 0), ("drop", 1), ("look", 1)))

    def test_operations_that_begin_have_the_next_number(self):
        run = run_of("look 0, store 1, look 2")
        self.assertEqual(index_of(PLAIN, CALM, run), "none")
        self.assertEqual(index_of(PLAIN, CALM, run_of("look 0, store 2")), 1)
        self.assertEqual(index_of(PLAIN, CALM, run_of("look 0, store 0")), 1)
        self.assertEqual(index_of(PLAIN, CALM, run_of("look 1")), 0)

    def test_kinds_of_what_is_returned(self):
        self.assertIs(type(can_follow(PLAIN, CALM, LATE)), tuple)
        self.assertEqual({type(event) for event in can_follow(PLAIN, CALM, LATE[:3])}, {tuple})
        self.assertIs(type(state(PLAIN, CALM, LATE)), tuple)
        self.assertIs(type(operations(PLAIN, CALM, LATE)), tuple)
        self.assertEqual({type(one) for one in operations(PLAIN, CALM, LATE)}, {tuple})
        self.assertIs(is_run(PLAIN, CALM, LATE), True)


if __name__ == "__main__":
    unittest.main()
