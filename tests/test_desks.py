"""Point 16: the desk; the examples of the interface."""

import unittest

from cacheheld.designs import all_designs, all_worlds
from cacheheld.desks import Desk
from cacheheld.errors import BadDesign, BadWorld, InvalidText, NothingToUndo, NotNow, NotText
from cacheheld.runs import can_follow
from model import Model, walk
from second import broken
from support import CALM, ODD_VALUES, ROUGH, nested, run_of

PLAIN = ("store drop", "always", "alone")
STORE = ("store", "always", "alone")
SIXTY = tuple(("store", number) for number in range(60))
WORDS = ("look", "fetch", "fill", "take", "store", "drop", "set", "stop")
QUESTIONS = ("events", "cache", "database", "broken")
NO_TEXTS = tuple(value for value in ODD_VALUES if not isinstance(value, str)) + (
    ("look", 0), (), ["look 0"], ("look 0",), b"look 0", b"", nested(90))

# None of these is a question or the text of an event.
NO_LINES = (
    "", " ", "\n", "Events", "events ", " events", "EVENTS", "events\n", "event", "cache 0", "caches", "database ",
    "replica", "mark", "broken?", "done", "undo", "state", "operations", "none", "nothing", "events; cache",
    "look", "look ", "look  0", " look 0", "look 0 ", "look 0\n", "look\t0", "look\n0", "look0", "look,0", "0 look",
    "look 00", "look 01", "look 09", "look 000", "look 100", "look 101", "look 999", "look 0100", "look 1000",
    "look +0", "look -0", "look -1", "look 0.0", "look 1.", "look 1e1", "look 0x1", "look 1_0", "look a", "look 0 0",
    "look 1 0", "look 0 store", "look 0; store 1", "look 0, store 1", "Look 0", "LOOK 0", "read 0", "write 0",
    "begin 0", "stops 0", "evict 0", "evict ", " evict", "Evict", "evicts", "copy 0", "copy ", " copy", "Copy",
    "copy\n", "copies", "stop", "stop ", "fetch", "fill", "take", "store", "drop", "set", "set ", "store drop 0",
    "look \u0660", "look \u00b2", "look \uff10", "look\u00a00", "look 0\r", "look 0\x0b", "('look', 0)",
)


def desk_after(design, world, run):
    """Return a desk that has done the events of a run."""
    desk = Desk(design, world)
    for event in run:
        desk.run(text_of(event))
    return desk


def text_of(event):
    return " ".join(str(part) for part in event)


def answers(desk):
    """Return all that a desk tells."""
    return [desk.done, desk.broken] + [desk.run(question) for question in QUESTIONS]


def answers_after(design, world, run):
    """Return what a desk should tell after a run, by the second reading."""
    model = Model(design, world, run)
    database, _, cache, _ = model.state()
    names = broken(design, world, run)
    return [tuple(run), names, "; ".join(map(text_of, model.can_follow())),
            "nothing" if cache is None else str(cache), str(database), " ".join(names) if names else "none"]


class ExamplesTest(unittest.TestCase):
    def test_desk(self):
        desk = Desk(PLAIN, CALM)
        found = [desk.run(line) for line in ("look 0", "fetch 0", "store 1", "drop 1", "events")]
        self.assertEqual(found, [None, None, None, None, "fill 0; look 2; store 2"])
        self.assertEqual([desk.run("fill 0"), desk.run("cache"), desk.run("database"), desk.run("broken"),
                          desk.broken, len(desk.done)], [None, "0", "1", "rest", ("rest",), 5])
        self.assertRaises(NotNow, desk.run, "evict")


class NewDeskTest(unittest.TestCase):
    def test_everywhere(self):
        for design in all_designs():
            for world in all_worlds():
                desk = Desk(design, world)
                self.assertEqual(answers(desk), answers_after(design, world, ()))
                self.assertEqual(desk.done, ())
                self.assertEqual(desk.broken, ("filled",) if design[1] == "never" else ())
                self.assertRaises(NothingToUndo, desk.undo)

    def test_answers(self):
        self.assertEqual([Desk(PLAIN, CALM).run(question) for question in QUESTIONS],
                         ["look 0; store 0", "nothing", "0", "none"])

    def test_no_design(self):
        for value in ODD_VALUES + (list(PLAIN), PLAIN[:2], CALM, nested(90)):
            with self.subTest(value):
                self.assertRaises(BadDesign, Desk, value, CALM)
                self.assertRaises(BadDesign, Desk, value, None)

    def test_no_world(self):
        for value in ODD_VALUES + (list(CALM), CALM[:2], PLAIN, nested(90)):
            with self.subTest(value):
                self.assertRaises(BadWorld, Desk, PLAIN, value)


class EventsTest(unittest.TestCase):
    def test_a_second_reading(self):
        for seed, design in enumerate(all_designs()):
            world = all_worlds()[(seed * 3) % 8]
            run = walk(design, world, seed + 11, 14)
            desk = Desk(design, world)
            for many, event in enumerate(run, start=1):
                self.assertIsNone(desk.run(text_of(event)))
                self.assertEqual(answers(desk), answers_after(design, world, run[:many]), (design, world, run[:many]))

    def test_just_the_events_that_can_come(self):
        for seed, (design, world) in enumerate(((("drop store drop", "mark", "shared"), ROUGH),
                                                (("store set", "newer", "alone"), ROUGH), (PLAIN, CALM))):
            run = walk(design, world, seed + 5, 12)
            following = Model(design, world, run).can_follow()
            for event in [("copy",), ("evict",)] + [(word, number) for word in WORDS for number in range(100)]:
                desk = desk_after(design, world, run)
                if event in following:
                    self.assertIsNone(desk.run(text_of(event)))
                    self.assertEqual(desk.done, run + (event,))
                else:
                    self.assertRaises(NotNow, desk.run, text_of(event))
                    self.assertEqual(desk.done, run)

    def test_ascending_as_events(self):
        run = tuple(("store", number) for number in range(11))
        self.assertEqual(desk_after(PLAIN, CALM, run).run("events"), (
            "drop 0; drop 1; drop 2; drop 3; drop 4; drop 5; drop 6; drop 7; drop 8; drop 9; drop 10; "
            "look 11; store 11"))
        run = run_of("store 0, drop 0, look 1, fetch 1, fill 1, look 2, store 3")
        self.assertEqual(desk_after(PLAIN, ROUGH, run).run("events"),
                         "copy; drop 3; evict; look 4; stop 3; store 4")

    def test_broken_promises(self):
        run = run_of("look 0, fetch 0, store 1, drop 1, fill 0, look 2")
        desk = desk_after(PLAIN, CALM, run)
        self.assertEqual(desk.broken, ("fresh", "linear", "quiet", "rest"))
        self.assertEqual(desk.run("broken"), "fresh linear quiet rest")
        desk = desk_after(PLAIN, CALM, run + (("store", 3),))
        self.assertEqual(desk.broken, ("linear",))
        self.assertEqual(desk.run("broken"), "linear")

    def test_versions_of_two_figures(self):
        desk = desk_after(STORE, CALM, SIXTY[:12] + run_of("look 12, fetch 12, fill 12"))
        self.assertEqual([desk.run("cache"), desk.run("database")], ["12", "12"])

    def test_kinds_of_what_is_returned(self):
        desk = desk_after(PLAIN, CALM, run_of("look 0, store 1"))
        self.assertEqual([type(desk.done), type(desk.done[0]), type(desk.broken)], [tuple, tuple, tuple])
        self.assertIsNone(desk.run("drop 1"))
        self.assertIsNone(desk.undo())
        self.assertEqual({type(desk.run(question)) for question in QUESTIONS}, {str})

    def test_questions_change_nothing(self):
        desk = desk_after(PLAIN, CALM, run_of("look 0, store 1"))
        before = answers(desk)
        self.assertEqual(answers(desk), before)
        self.assertEqual(desk.done, run_of("look 0, store 1"))

    def test_two_desks(self):
        one, other = Desk(PLAIN, CALM), Desk(PLAIN, CALM)
        one.run("look 0")
        self.assertEqual(other.done, ())
        other.run("store 0")
        self.assertEqual([one.done, other.done], [run_of("look 0"), run_of("store 0")])

    def test_what_was_told_stays(self):
        desk = Desk(PLAIN, CALM)
        before = desk.done
        desk.run("look 0")
        after = desk.done
        desk.undo()
        self.assertEqual([before, after], [(), run_of("look 0")])


class WrongLinesTest(unittest.TestCase):
    def setUp(self):
        self.desk = desk_after(PLAIN, CALM, run_of("look 0, fetch 0, store 1"))
        self.before = answers(self.desk)

    def tearDown(self):
        self.assertEqual(answers(self.desk), self.before)

    def test_no_strings(self):
        for value in NO_TEXTS:
            with self.subTest(value):
                self.assertRaises(NotText, self.desk.run, value)

    def test_events_that_cannot_come(self):
        for line in ("evict", "copy", "stop 0", "stop 1", "look 0", "look 1", "look 3", "fetch 0", "fill 1", "drop 0",
                     "store 0", "store 1", "store 3", "take 0", "take 1", "set 0", "set 1", "set 2", "fetch 9",
                     "fetch 10", "fetch 99", "stop 99", "set 99", "look 99", "look 60", "look 61", "fill 20"):
            with self.subTest(line):
                self.assertRaises(NotNow, self.desk.run, line)

    def test_other_lines(self):
        for line in NO_LINES:
            with self.subTest(line), self.assertRaises(InvalidText) as caught:
                self.desk.run(line)
            self.assertEqual(caught.exception.line, 1)

    def test_every_number_of_up_to_three_figures(self):
        for word in WORDS:
            for number in range(1000):
                if number < 100 and (word, number) not in can_follow(PLAIN, CALM, self.desk.done):
                    self.assertRaises(NotNow, self.desk.run, word + " " + str(number))
                for text in ("0" + str(number), str(number)):
                    if len(text) > 2 or text[0] == "0" and number > 0:
                        self.assertRaises(InvalidText, self.desk.run, word + " " + text)


class FullDeskTest(unittest.TestCase):
    def setUp(self):
        self.desk = desk_after(STORE, ROUGH, SIXTY)

    def test_sixty_events(self):
        self.assertEqual(self.desk.done, SIXTY)
        self.assertEqual(self.desk.run("database"), "60")

    def test_no_event_more(self):
        before = answers(self.desk)
        for line in ("store 60", "look 60", "copy", "evict", "stop 0", "fetch 0", "set 3", "look 99"):
            self.assertRaises(NotNow, self.desk.run, line)
        self.assertEqual(answers(self.desk), before)

    def test_other_lines(self):
        for line in NO_LINES:
            self.assertRaises(InvalidText, self.desk.run, line)
        for value in NO_TEXTS:
            self.assertRaises(NotText, self.desk.run, value)
        self.assertEqual(self.desk.done, SIXTY)

    def test_questions(self):
        # The events that can come after the run, as can_follow tells them, although the desk does none of them.
        self.assertEqual([self.desk.run(question) for question in QUESTIONS],
                         ["copy; look 60; store 60", "nothing", "60", "none"])

    def test_room_again(self):
        self.desk.undo()
        self.assertEqual(len(self.desk.done), 59)
        self.assertIsNone(self.desk.run("copy"))
        self.assertEqual(self.desk.done, SIXTY[:59] + (("copy",),))
        self.assertRaises(NotNow, self.desk.run, "copy")
        self.assertEqual(len(self.desk.done), 60)

    def test_fifty_nine_events(self):
        desk = desk_after(STORE, ROUGH, SIXTY[:59])
        self.assertIsNone(desk.run("look 59"))
        self.assertRaises(NotNow, desk.run, "fetch 59")

    def test_back_to_the_beginning(self):
        for many in range(59, -1, -1):
            self.assertIsNone(self.desk.undo())
            self.assertEqual(self.desk.done, SIXTY[:many])
            self.assertEqual(self.desk.run("database"), str(many))
        self.assertRaises(NothingToUndo, self.desk.undo)
        self.assertEqual(answers(self.desk), answers_after(STORE, ROUGH, ()))


class UndoTest(unittest.TestCase):
    def test_a_second_reading(self):
        for seed, design in enumerate(all_designs()):
            world = all_worlds()[(seed * 5 + 1) % 8]
            run = walk(design, world, seed + 23, 12)
            desk = desk_after(design, world, run)
            for many in range(len(run) - 1, -1, -1):
                self.assertIsNone(desk.undo())
                self.assertEqual(answers(desk), answers_after(design, world, run[:many]), (design, world, run[:many]))
            for _ in range(2):
                self.assertRaises(NothingToUndo, desk.undo)
                self.assertEqual(answers(desk), answers_after(design, world, ()))

    def test_on_from_there(self):
        desk = desk_after(PLAIN, CALM, run_of("look 0, fetch 0, store 1, drop 1, fill 0, look 2"))
        desk.undo()
        desk.undo()
        self.assertEqual(desk.run("cache"), "nothing")
        self.assertEqual(desk.run("events"), "fill 0; look 2; store 2")
        self.assertEqual(desk.broken, ())
        desk.run("store 2")
        desk.run("fill 0")
        self.assertEqual(answers(desk), answers_after(
            PLAIN, CALM, run_of("look 0, fetch 0, store 1, drop 1, store 2, fill 0")))

    def test_each_kind_of_event(self):
        design, world = ("store drop", "mark", "shared"), ROUGH
        for text in ("look 0, store 1, copy", "look 0, store 1, stop 0", "look 0, fetch 0, fill 0, evict",
                     "store 0, drop 0, evict", "look 0, look 1, fetch 0, fill 0, take 1", "look 0, stop 0, look 1"):
            run = run_of(text)
            desk = desk_after(design, world, run)
            desk.undo()
            self.assertEqual(answers(desk), answers_after(design, world, run[:-1]))
            self.assertIsNone(desk.run(text_of(run[-1])))
            self.assertEqual(answers(desk), answers_after(design, world, run))


if __name__ == "__main__":
    unittest.main()
