"""Points 4 and 5: the database, the replica, the cache, the mark, evictions; the steps of writes."""

import unittest

from cacheheld.designs import all_designs, all_worlds, write_steps
from cacheheld.runs import can_follow, is_run, operations, state
from support import CALM, ROUGH, run_of

REPLICA = ("replica", "keeps", "finishes")
EVICTS = ("primary", "evicts", "finishes")
ALWAYS = ("store drop", "always", "alone")


class DatabaseTest(unittest.TestCase):
    def test_the_nth_store_makes_it_n(self):
        run = run_of("store 0, store 1, drop 1, store 2, drop 0")
        for many, database in enumerate((0, 1, 2, 2, 3, 3)):
            self.assertEqual(state(ALWAYS, CALM, run[:many])[0], database)

    def test_the_version_of_a_write_is_the_one_that_it_stored(self):
        run = run_of("store 0, store 1, drop 1, drop 0")
        self.assertEqual(operations(ALWAYS, CALM, run), (("write", "ended", 1), ("write", "ended", 2)))

    def test_order_of_stores_not_of_beginnings(self):
        design = ("drop store", "always", "alone")
        run = run_of("drop 0, drop 1, store 1, store 0")
        self.assertEqual(operations(design, CALM, run), (("write", "ended", 2), ("write", "ended", 1)))
        self.assertEqual(operations(design, CALM, run[:3]), (("write", "store", None), ("write", "ended", 1)))


class ReplicaTest(unittest.TestCase):
    def test_copy_comes_up_to_the_version_of_the_database(self):
        for world in all_worlds():
            replica = world[0] == "replica"
            self.assertNotIn(("copy",), can_follow(ALWAYS, world, ()))
            self.assertIs(is_run(ALWAYS, world, (("copy",),)), False)
            for stores in (1, 2, 3):
                run = tuple(("store", number) for number in range(stores))
                self.assertIs(("copy",) in can_follow(ALWAYS, world, run), replica)
                self.assertIs(is_run(ALWAYS, world, run + (("copy",),) * stores), replica)
                self.assertIs(is_run(ALWAYS, world, run + (("copy",),) * (stores + 1)), False)
                if replica:
                    self.assertNotIn(("copy",), can_follow(ALWAYS, world, run + (("copy",),) * stores))

    def test_copy_makes_it_one_greater(self):
        run = run_of("store 0, store 1, copy, copy, store 2")
        for many, replica in ((2, 0), (3, 1), (4, 2), (5, 2)):
            self.assertEqual(state(ALWAYS, REPLICA, run[:many])[1], replica)
        self.assertEqual(can_follow(ALWAYS, REPLICA, run)[0], ("copy",))

    def test_a_primary_has_no_replica(self):
        self.assertEqual(state(ALWAYS, CALM, run_of("store 0, drop 0, store 1")), (2, 0, None, 0))

    def test_copy_leaves_the_cache_alone(self):
        run = run_of("look 0, fetch 0, fill 0, store 1, copy")
        self.assertEqual(state(ALWAYS, REPLICA, run), (1, 1, 0, 0))


class WriteStepsTest(unittest.TestCase):
    def test_the_steps_are_those_of_the_path_in_order(self):
        for design in all_designs():
            words = write_steps(design)
            for many in range(1, len(words) + 1):
                run = tuple((word, 0) for word in words[:many])
                stage = words[many] if many < len(words) else "ended"
                version = 1 if "store" in words[:many] else None
                self.assertEqual(operations(design, CALM, run), (("write", stage, version),))
                self.assertEqual(state(design, CALM, run)[0], version or 0)

    def test_no_other_step_can_come(self):
        for design in all_designs():
            words = write_steps(design)
            for many in range(len(words) + 1):
                run = tuple((word, 0) for word in words[:many])
                expected = words[many:many + 1]
                for word in ("store", "drop", "set", "look", "fetch", "fill", "take", "stop"):
                    self.assertIs(is_run(design, CALM, run + ((word, 0),)),
                                  word in expected or (many == 0 and word == "look"))

    def test_drop_empties_the_cache(self):
        filled = run_of("look 0, fetch 0, fill 0")
        self.assertEqual(state(ALWAYS, CALM, filled + run_of("store 1")), (1, 0, 0, 0))
        self.assertEqual(state(ALWAYS, CALM, filled + run_of("store 1, drop 1")), (1, 0, None, 0))
        self.assertEqual(state(("drop store", "always", "alone"), CALM, filled + run_of("drop 1")), (0, 0, None, 0))
        self.assertEqual(state(("store", "always", "alone"), CALM, filled + run_of("store 1")), (1, 0, 0, 0))

    def test_set_holds_the_version_of_the_write(self):
        for guard in ("always", "empty", "mark", "never", "newer", "token"):
            mark = 1 if guard == "mark" else 0
            found = state(("store set", guard, "alone"), CALM, run_of("store 0, set 0"))
            self.assertEqual(found, (1, 0, 1, mark))


class SetTest(unittest.TestCase):
    """The guard's conditions at a set."""

    def cache(self, guard, text, world=CALM):
        return state(("store set", guard, "alone"), world, run_of(text))[2:]

    def test_an_older_version_after_a_newer_one(self):
        text = "store 0, store 1, set 1, set 0"
        for guard in ("always", "empty", "never", "token"):
            self.assertEqual(self.cache(guard, text), (1, 0), guard)
        self.assertEqual(self.cache("newer", text), (2, 0))
        self.assertEqual(self.cache("mark", text), (2, 2))

    def test_a_newer_version_after_an_older_one(self):
        text = "store 0, store 1, set 0, set 1"
        for guard in ("always", "empty", "never", "newer", "token"):
            self.assertEqual(self.cache(guard, text), (2, 0), guard)
        self.assertEqual(self.cache("mark", text), (2, 2))

    def test_the_version_that_is_held_already(self):
        text = "store 0, look 1, fetch 1, fill 1, set 0"
        for guard in ("always", "empty", "newer", "token"):
            self.assertEqual(self.cache(guard, text), (1, 0), guard)
        self.assertEqual(self.cache("mark", text), (1, 1))

    def test_newer_over_version_0_and_over_nothing(self):
        self.assertEqual(self.cache("newer", "look 0, fetch 0, fill 0, store 1, set 1"), (1, 0))
        self.assertEqual(self.cache("newer", "store 0, store 1, set 1, evict, set 0", EVICTS), (1, 0))

    def test_mark_after_an_eviction(self):
        text = "store 0, store 1, set 1, evict"
        self.assertEqual(self.cache("mark", text, EVICTS), (None, 0))
        self.assertEqual(self.cache("mark", text + ", set 0", EVICTS), (1, 1))

    def test_a_write_whose_set_is_not_let_in_ends(self):
        for guard in ("mark", "newer"):
            found = operations(("store set", guard, "alone"), CALM, run_of("store 0, store 1, set 1, set 0"))
            self.assertEqual(found, (("write", "ended", 1), ("write", "ended", 2)))


class MarkTest(unittest.TestCase):
    def mark(self, path, text, world=CALM):
        return state((path, "mark", "alone"), world, run_of(text))[3]

    def test_only_with_the_guard_mark(self):
        run = run_of("store 0, drop 0, look 1, fetch 1, fill 1")
        for guard in ("always", "empty", "newer", "token"):
            self.assertEqual(state(("store drop", guard, "alone"), CALM, run), (1, 0, 1, 0))
        self.assertEqual(state(("store drop", "mark", "alone"), CALM, run), (1, 0, 1, 1))

    def test_a_write_that_has_stored_drops(self):
        self.assertEqual(self.mark("store drop", "store 0"), 0)
        self.assertEqual(self.mark("store drop", "store 0, drop 0"), 1)
        self.assertEqual(self.mark("store drop", "store 0, store 1, drop 0"), 1)
        self.assertEqual(self.mark("store drop", "store 0, store 1, drop 1"), 2)
        self.assertEqual(self.mark("store drop", "store 0, store 1, drop 1, drop 0"), 2)

    def test_a_write_that_has_not_stored_drops(self):
        self.assertEqual(self.mark("drop store", "drop 0, store 0, drop 1"), 0)
        self.assertEqual(self.mark("drop store drop", "drop 0, store 0, drop 1"), 0)
        self.assertEqual(self.mark("drop store drop", "drop 0, store 0, drop 0"), 1)
        self.assertEqual(self.mark("drop store drop", "drop 0, store 0, drop 1, store 1, drop 1, drop 0"), 2)

    def test_a_drop_before_the_store_leaves_the_mark(self):
        text = "drop 0, store 0, look 1, fetch 1, fill 1"
        self.assertEqual(self.mark("drop store", text), 1)
        self.assertEqual(self.mark("drop store", text + ", drop 2"), 1)

    def test_the_cache_comes_to_hold_a_version(self):
        self.assertEqual(self.mark("store", "store 0, look 1, fetch 1"), 0)
        self.assertEqual(self.mark("store", "store 0, look 1, fetch 1, fill 1"), 1)
        self.assertEqual(self.mark("store set", "store 0, store 1, set 1"), 2)

    def test_what_is_not_let_in_leaves_the_mark(self):
        self.assertEqual(self.mark("store set", "store 0, store 1, set 1, set 0"), 2)
        self.assertEqual(self.mark("store drop", "look 0, fetch 0, store 1, drop 1, fill 0"), 1)


class EvictTest(unittest.TestCase):
    def follows(self, design, text, world=EVICTS):
        return ("evict",) in can_follow(design, world, run_of(text))

    def test_only_while_the_cache_holds_a_version(self):
        self.assertIs(self.follows(ALWAYS, ""), False)
        self.assertIs(self.follows(ALWAYS, "look 0, fetch 0"), False)
        self.assertIs(self.follows(ALWAYS, "look 0, fetch 0, fill 0"), True)
        self.assertIs(self.follows(ALWAYS, "look 0, fetch 0, fill 0, evict"), False)
        self.assertIs(self.follows(ALWAYS, "look 0, fetch 0, fill 0, store 1, drop 1"), False)

    def test_while_the_cache_is_empty_but_the_mark_is_not_0(self):
        design = ("store drop", "mark", "alone")
        self.assertIs(self.follows(design, "store 0"), False)
        self.assertIs(self.follows(design, "store 0, drop 0"), True)
        self.assertEqual(state(design, EVICTS, run_of("store 0, drop 0")), (1, 0, None, 1))
        self.assertEqual(state(design, EVICTS, run_of("store 0, drop 0, evict")), (1, 0, None, 0))
        self.assertIs(self.follows(design, "store 0, drop 0, evict"), False)

    def test_the_mark_0_beside_a_version_0(self):
        design = ("store drop", "mark", "alone")
        self.assertIs(self.follows(design, "look 0, fetch 0, fill 0"), True)

    def test_empties_the_cache_and_the_mark(self):
        text = "store 0, drop 0, look 1, fetch 1, fill 1"
        for guard, mark in (("always", 0), ("mark", 1)):
            design = ("store drop", guard, "alone")
            self.assertEqual(state(design, EVICTS, run_of(text)), (1, 0, 1, mark))
            self.assertEqual(state(design, EVICTS, run_of(text + ", evict")), (1, 0, None, 0))

    def test_only_with_evictions(self):
        for world in all_worlds():
            found = self.follows(ALWAYS, "look 0, fetch 0, fill 0", world)
            self.assertIs(found, world[1] == "evicts")
            self.assertIs(is_run(ALWAYS, world, run_of("look 0, fetch 0, fill 0, evict")), found)

    def test_leaves_database_and_replica(self):
        run = run_of("store 0, drop 0, store 1, copy, look 2, fetch 2, fill 2, evict")
        self.assertEqual(state(ALWAYS, ROUGH, run), (2, 1, None, 0))


if __name__ == "__main__":
    unittest.main()
