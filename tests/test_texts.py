"""Point 15: the texts of designs, worlds and runs; the examples of the interface."""

import unittest

from cacheheld.designs import all_designs, all_worlds
from cacheheld.errors import BadDesign, BadRun, BadWorld, InvalidText, NotText
from cacheheld.runs import can_follow, is_run
from cacheheld.texts import read_design, read_run, read_world, write_design, write_run, write_world
from model import Model, walk
from support import CALM, ODD_VALUES, ROUGH, nested, run_of

PLAIN = ("store drop", "always", "alone")
STORE = ("store", "always", "alone")
SIXTY = tuple(("store", number) for number in range(60))
SIXTY_LINES = ["store " + str(number) for number in range(60)]
NO_TEXTS = tuple(value for value in ODD_VALUES if not isinstance(value, str)) + (
    PLAIN, CALM, (), SIXTY, ["look 0"], ("look 0",), b"look 0", b"", nested(90))
WORDS = ("look", "fetch", "fill", "take", "store", "drop", "set", "stop")


def line_of(function, *values):
    """Return the line of the InvalidText that a function raises, "none" if it raises none."""
    try:
        function(*values)
    except InvalidText as error:
        return error.line
    return "none"


def bad_line(design, world, *lines):
    """Return the line of the InvalidText that read_run raises for a text of several lines."""
    return line_of(read_run, design, world, "\n".join(lines))


class ExamplesTest(unittest.TestCase):
    def test_texts(self):
        self.assertEqual(write_design(PLAIN), "store drop, always, alone")
        self.assertEqual(read_world("replica, keeps, stops"), ("replica", "keeps", "stops"))
        self.assertEqual(write_run(PLAIN, CALM, (("look", 0), ("store", 1))), "look 0\nstore 1")
        self.assertRaises(InvalidText, read_run, PLAIN, CALM, "look 0\nfill 0")


class DesignsAndWorldsTest(unittest.TestCase):
    def test_there_and_back(self):
        for design in all_designs():
            self.assertEqual(write_design(design), design[0] + ", " + design[1] + ", " + design[2])
            self.assertEqual(read_design(write_design(design)), design)
        for world in all_worlds():
            self.assertEqual(write_world(world), world[0] + ", " + world[1] + ", " + world[2])
            self.assertEqual(read_world(write_world(world)), world)

    def test_kinds_of_what_is_returned(self):
        self.assertIs(type(read_design("store, mark, shared")), tuple)
        self.assertIs(type(read_world("primary, keeps, stops")), tuple)
        self.assertEqual(read_design("drop store drop, mark, shared"), ("drop store drop", "mark", "shared"))

    def test_other_strings(self):
        for text in ("", " ", ", ", ", , ", "\n", "store drop", "store drop, always", "store drop, always, ",
                     "store drop, always, alone, ", "store drop, always, alone, alone", "always, alone",
                     "store drop,always,alone", "store drop,always, alone", "store drop,  always, alone",
                     "store drop , always, alone", " store drop, always, alone", "store drop, always, alone ",
                     "store  drop, always, alone", "storedrop, always, alone", "store, drop, always, alone",
                     "store drop, always, alone\n", "store drop, always, alone\nstore drop, always, alone",
                     "Store drop, always, alone", "STORE DROP, ALWAYS, ALONE", "always, store drop, alone",
                     "store drop; always; alone", "store drop always alone", "store drop,\talways, alone",
                     "drop, always, alone", "store drop, mine, alone", "store drop, always, both",
                     "('store drop', 'always', 'alone')", "primary, keeps, finishes", "replica, keeps, stops"):
            with self.subTest(text):
                self.assertEqual(line_of(read_design, text), 1)
        for text in ("", " ", "primary", "primary, keeps", "primary, keeps, ", "primary,keeps,finishes",
                     "primary,  keeps, finishes", " primary, keeps, finishes", "primary, keeps, finishes ",
                     "primary, keeps, finishes\n", "Primary, keeps, finishes", "keeps, primary, finishes",
                     "primary, keeps, finishes, stops", "replica, keeps, alone", "store drop, always, alone"):
            with self.subTest(text):
                self.assertEqual(line_of(read_world, text), 1)

    def test_one_sign_too_many_or_too_few(self):
        for function, texts in ((read_design, [write_design(design) for design in all_designs()]),
                                (read_world, [write_world(world) for world in all_worlds()])):
            for text in texts:
                for place in range(len(text) + 1):
                    for sign in (" ", ",", "e", "\n"):
                        self.assertEqual(line_of(function, text[:place] + sign + text[place:]), 1)
                    if place < len(text):
                        self.assertEqual(line_of(function, text[:place] + text[place + 1:]), 1)

    def test_no_strings(self):
        for value in NO_TEXTS:
            with self.subTest(value):
                self.assertRaises(NotText, read_design, value)
                self.assertRaises(NotText, read_world, value)

    def test_no_designs_and_worlds(self):
        for value in ODD_VALUES + (list(PLAIN), CALM, PLAIN[:2], nested(90)):
            with self.subTest(value):
                self.assertRaises(BadDesign, write_design, value)
        for value in ODD_VALUES + (list(CALM), PLAIN, CALM[:2], nested(90)):
            with self.subTest(value):
                self.assertRaises(BadWorld, write_world, value)


class WriteRunTest(unittest.TestCase):
    def test_no_events(self):
        self.assertEqual(write_run(PLAIN, CALM, ()), "")

    def test_all_words(self):
        run = run_of("store 0, copy, look 1, fetch 1, look 2, drop 0, fill 1, take 2, evict, store 3, stop 3")
        self.assertEqual(write_run(("store drop", "always", "shared"), ROUGH, run), (
            "store 0\ncopy\nlook 1\nfetch 1\nlook 2\ndrop 0\nfill 1\ntake 2\nevict\nstore 3\nstop 3"))
        self.assertEqual(write_run(("store set", "always", "alone"), CALM, run_of("store 0, set 0")), "store 0\nset 0")

    def test_sixty_events(self):
        self.assertEqual(write_run(STORE, CALM, SIXTY), "\n".join(SIXTY_LINES))

    def test_no_runs(self):
        for run, index in ((SIXTY + (("store", 60),), None), ([], None), ("", None), ((("look", 1),), 0),
                           ((("look", 0), ("fill", 0)), 1), ((("look", False),), 0), ((["look", 0],), 0),
                           (("look 0",), 0), (((),), 0)):
            with self.subTest(run), self.assertRaises(BadRun) as caught:
                write_run(STORE, CALM, run)
            self.assertEqual(caught.exception.index, index)

    def test_the_first_wrong_argument_counts(self):
        self.assertRaises(BadDesign, write_run, list(PLAIN), None, None)
        self.assertRaises(BadWorld, write_run, PLAIN, list(CALM), None)


class ReadRunTest(unittest.TestCase):
    def test_no_events(self):
        for design in all_designs():
            for world in all_worlds():
                self.assertEqual(read_run(design, world, ""), ())

    def test_there_and_back(self):
        for seed, design in enumerate(all_designs()):
            world = all_worlds()[(seed * 3) % 8]
            run = walk(design, world, seed + 7, 30)
            text = "\n".join(" ".join(map(str, event)) for event in run)
            self.assertEqual(write_run(design, world, run), text)
            found = read_run(design, world, text)
            self.assertEqual(found, run)
            self.assertEqual([tuple(map(type, event)) for event in found], [tuple(map(type, event)) for event in run])
            self.assertIs(is_run(design, world, found), True)

    def test_just_the_events_that_can_come(self):
        for seed, (design, world) in enumerate(((("drop store drop", "mark", "shared"), ROUGH),
                                                (("store set", "newer", "alone"), ROUGH), (PLAIN, CALM))):
            run = walk(design, world, seed + 3, 14)
            for many in range(len(run) + 1):
                lines = [" ".join(map(str, event)) for event in run[:many]]
                following = Model(design, world, run[:many]).can_follow()
                for event in [("copy",), ("evict",)] + [(word, number) for word in WORDS for number in range(9)]:
                    expected = "none" if event in following else many + 1
                    self.assertEqual(bad_line(design, world, *lines, " ".join(map(str, event))), expected)

    def test_numbers_of_two_figures(self):
        lines = SIXTY_LINES[:11] + ["look 11", "look 12", "fetch 11"]
        self.assertEqual(read_run(STORE, CALM, "\n".join(lines))[10:],
                         (("store", 10), ("look", 11), ("look", 12), ("fetch", 11)))
        self.assertEqual(bad_line(STORE, CALM, *SIXTY_LINES[:10], "store 010"), 11)
        self.assertEqual(bad_line(STORE, CALM, *SIXTY_LINES[:10], "store 1 0"), 11)

    def test_lines_that_are_no_texts_of_events(self):
        for line in (" ", "look", "look ", "look  0", " look 0", "look 0 ", "look 00", "look 01", "look +0",
                     "look -0", "look 0.", "look 0.0", "look 0x0", "look 0_0", "look o", "look\t0", "look,0", "look0",
                     "Look 0", "LOOK 0", "0 look", "0", "look 0 0", "look 0 look", "look 0, store 1", "look 0; store 1",
                     "look 0\r", "look 0\t", "look None", "look False", "look \u0660", "look \u00b2", "look \uff10",
                     "look\u00a00", "('look', 0)", "store 0 ", "read 0", "write 0", "begin 0", "copy 0", "evict 0"):
            with self.subTest(line):
                self.assertEqual(bad_line(PLAIN, ROUGH, line), 1)
                self.assertEqual(bad_line(PLAIN, ROUGH, "look 0", "store 1", line.replace("0", "2")), 3)

    def test_words_without_a_number(self):
        lines = ["store 0", "look 1", "fetch 1", "fill 1"]
        for line in ("copy", "evict"):
            self.assertEqual(bad_line(PLAIN, ROUGH, *lines, line), "none")
            for other in (line + " ", " " + line, line + " 0", line + "\t", line.upper(), line + line):
                self.assertEqual(bad_line(PLAIN, ROUGH, *lines, other), 5)

    def test_only_a_line_feed_ends_a_line(self):
        for sign in ("\r", "\r\n", "\x0b", "\x0c", "\x1c", "\x1d", "\x1e", "\x85", "\u2028", "\u2029", ",", ";", " "):
            with self.subTest(sign):
                self.assertEqual(line_of(read_run, PLAIN, CALM, "look 0" + sign + "fetch 0"), 1)

    def test_empty_lines(self):
        self.assertEqual(line_of(read_run, PLAIN, CALM, "\n"), 1)
        self.assertEqual(line_of(read_run, PLAIN, CALM, "\nlook 0"), 1)
        self.assertEqual(line_of(read_run, PLAIN, CALM, "look 0\n"), 2)
        self.assertEqual(line_of(read_run, PLAIN, CALM, "look 0\n\nfetch 0"), 2)
        self.assertEqual(line_of(read_run, PLAIN, CALM, " "), 1)

    def test_the_first_bad_line(self):
        self.assertEqual(bad_line(PLAIN, CALM, "look 0", "fill 0", "fetch 0"), 2)
        self.assertEqual(bad_line(PLAIN, CALM, "look 0", "fetch 0", "fill 0", "fill 0", "store 0", ""), 4)
        self.assertEqual(bad_line(PLAIN, CALM, "", "", ""), 1)
        self.assertEqual(bad_line(PLAIN, CALM, "look 0", "look 0"), 2)
        self.assertEqual(bad_line(PLAIN, CALM, "look 0", "look 2"), 2)
        self.assertEqual(bad_line(PLAIN, CALM, "look 1"), 1)

    def test_sixty_lines(self):
        self.assertEqual(read_run(STORE, CALM, "\n".join(SIXTY_LINES)), SIXTY)
        self.assertEqual(bad_line(STORE, CALM, *SIXTY_LINES[:59], "store 58"), 60)

    def test_the_sixty_first_line(self):
        for line in ("store 60", "look 60", "", "store 61", "nothing"):
            with self.subTest(line):
                self.assertEqual(bad_line(STORE, CALM, *SIXTY_LINES, line), 61)
                self.assertEqual(bad_line(STORE, CALM, *SIXTY_LINES, line, "", "store 61"), 61)
        self.assertIn(("store", 60), can_follow(STORE, CALM, SIXTY))

    def test_a_bad_line_before_the_sixty_first(self):
        lines = SIXTY_LINES + ["store 60"]
        self.assertEqual(bad_line(STORE, CALM, *lines[:4], "drop 4", *lines[5:]), 5)
        self.assertEqual(bad_line(STORE, CALM, *lines[:59], "drop 59", *lines[60:]), 60)

    def test_no_strings(self):
        for value in NO_TEXTS:
            with self.subTest(value):
                self.assertRaises(NotText, read_run, PLAIN, CALM, value)

    def test_the_first_wrong_argument_counts(self):
        for value in NO_TEXTS + ("look 1",):
            self.assertRaises(BadDesign, read_run, list(PLAIN), CALM, value)
            self.assertRaises(BadDesign, read_run, "store drop, always, alone", None, value)
            self.assertRaises(BadWorld, read_run, PLAIN, list(CALM), value)
            self.assertRaises(BadWorld, read_run, PLAIN, "primary, keeps, finishes", value)

    def test_arguments_are_not_modified(self):
        lines, words = ["look 0"], list(PLAIN)
        self.assertRaises(NotText, read_run, PLAIN, CALM, lines)
        self.assertRaises(BadDesign, write_run, words, CALM, ())
        self.assertEqual((lines, words), (["look 0"], list(PLAIN)))


if __name__ == "__main__":
    unittest.main()
