"""What the tests of single promises share: designs, worlds, and runs that break or do not break a promise."""

import unittest

from cacheheld.promises import breaks
from second import broken
from support import run_of

STOPPING = ("primary", "keeps", "stops")
EVICTING = ("primary", "evicts", "finishes")
COPIED = ("replica", "keeps", "finishes")
COPIED_STOPPING = ("replica", "keeps", "stops")
PLAIN = ("store drop", "always", "alone")
SHARED = ("store drop", "always", "shared")
STORE = ("store", "always", "alone")
SET = ("store set", "always", "alone")
PASSING = ("store drop", "never", "alone")


class PromiseCase(unittest.TestCase):
    """Each test names runs that break a promise and runs, as near to them as can be, that do not."""

    promise = None

    def ask(self, design, world, text, expected):
        run = run_of(text)
        with self.subTest(design=design, world=world, run=text):
            self.assertIs(breaks(design, world, self.promise, run), expected)
            self.assertIs(self.promise in broken(design, world, run), expected)

    def breaks(self, design, world, *texts):
        for text in texts:
            self.ask(design, world, text, True)

    def keeps(self, design, world, *texts):
        for text in texts:
            self.ask(design, world, text, False)
