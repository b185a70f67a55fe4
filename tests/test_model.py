"""Points 4 to 7, compared with the second reading of them in model.py, for all designs in all worlds."""

import unittest

from cacheheld.designs import all_designs, all_worlds
from cacheheld.runs import can_follow, is_run, operations, state
from model import Model, walk

WORDS = ("look", "fetch", "fill", "take", "store", "drop", "set", "stop")
ALL_EVENTS = [("copy",), ("evict",)] + [(word, number) for word in WORDS for number in range(4)]
EXHAUSTED = 3
COMPARED = (8, 20, 40, 60)


class ModelTest(unittest.TestCase):
    def compare(self, design, world, run):
        model = Model(design, world, run)
        self.assertEqual(can_follow(design, world, run), model.can_follow(), (design, world, run))
        self.assertEqual(operations(design, world, run), model.operations(), (design, world, run))
        self.assertEqual(state(design, world, run), model.state(), (design, world, run))
        return model.can_follow()

    def test_all_short_runs(self):
        for design in all_designs():
            for world in all_worlds():
                runs = [()]
                for _ in range(EXHAUSTED):
                    runs = [run + (event,) for run in runs for event in self.compare(design, world, run)]

    def test_just_these_events_can_come(self):
        for design in all_designs():
            for world in all_worlds():
                run = tuple(walk(design, world, 3, 5))
                after = Model(design, world, run).can_follow()
                found = [event for event in ALL_EVENTS if is_run(design, world, run + (event,))]
                self.assertEqual(sorted(found), [event for event in after if event in ALL_EVENTS])

    def test_long_runs(self):
        for seed, design in enumerate(all_designs()):
            for world in all_worlds():
                run = walk(design, world, seed, COMPARED[-1])
                for length in COMPARED:
                    self.compare(design, world, run[:length])


if __name__ == "__main__":
    unittest.main()
