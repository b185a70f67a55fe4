"""Point 6: reads, guards and flights; the stops of point 7."""

import unittest

from cacheheld.designs import all_designs, all_worlds
from cacheheld.runs import can_follow, is_run, operations, state
from support import CALM, ROUGH, run_of

REPLICA = ("replica", "keeps", "finishes")
EVICTS = ("primary", "evicts", "finishes")
STOPS = ("primary", "keeps", "stops")
SHARED = ("store drop", "always", "shared")
ALONE = ("store drop", "always", "alone")
SHARED_SET = ("store set", "always", "shared")


def cache(design, world, text):
    return state(design, world, run_of(text))[2]


def steps_of(design, world, text, number):
    """Return the words of the events of an operation that can come after a run."""
    return [event[0] for event in can_follow(design, world, run_of(text)) if event[1:] == (number,)]


class LookTest(unittest.TestCase):
    def test_a_hit_ends_the_read(self):
        for flight in ("alone", "shared"):
            design = ("store set", "always", flight)
            run = run_of("store 0, set 0, store 1, look 2")
            self.assertEqual(operations(design, CALM, run)[2], ("read", "ended", 1))
            self.assertEqual(steps_of(design, CALM, "store 0, set 0, store 1, look 2", 2), [])

    def test_version_0_is_a_hit(self):
        run = run_of("look 0, fetch 0, fill 0, look 1")
        self.assertEqual(operations(ALONE, CALM, run)[1], ("read", "ended", 0))
        self.assertEqual(operations(SHARED, CALM, run)[1], ("read", "ended", 0))

    def test_a_miss_goes_on_by_itself(self):
        for design in (ALONE, SHARED):
            self.assertEqual(operations(design, CALM, run_of("look 0")), (("read", "fetch", None),))
            self.assertEqual(steps_of(design, CALM, "look 0", 0), ["fetch"])

    def test_a_hit_while_a_flight_is_open(self):
        run = run_of("look 0, store 1, set 1, look 2")
        self.assertEqual(operations(SHARED_SET, CALM, run)[2], ("read", "ended", 1))


class FetchTest(unittest.TestCase):
    def test_takes_the_version_of_the_database(self):
        for text, version in (("look 0, fetch 0", 0), ("look 0, store 1, fetch 0", 1),
                              ("look 0, fetch 0, store 1", 0)):
            self.assertEqual(operations(ALONE, CALM, run_of(text))[0], ("read", "fill", version))

    def test_takes_the_version_of_the_replica(self):
        for text, version in (("look 0, store 1, store 2, fetch 0", 0), ("look 0, store 1, store 2, copy, fetch 0", 1),
                              ("look 0, store 1, store 2, copy, copy, fetch 0", 2),
                              ("look 0, store 1, fetch 0, copy", 0)):
            self.assertEqual(operations(ALONE, REPLICA, run_of(text))[0], ("read", "fill", version))

    def test_fetch_alone_leaves_the_cache(self):
        self.assertIsNone(cache(ALONE, CALM, "look 0, fetch 0"))


class FillTest(unittest.TestCase):
    """The guard's conditions at a fill."""

    def test_always(self):
        design = ("store drop", "always", "alone")
        self.assertEqual(cache(design, CALM, "look 0, fetch 0, store 1, drop 1, fill 0"), 0)
        both = "look 0, fetch 0, store 1, drop 1, look 2, fetch 2, "
        self.assertEqual(cache(design, CALM, both + "fill 2, fill 0"), 0)
        self.assertEqual(cache(design, CALM, both + "fill 0, fill 2"), 1)

    def test_empty(self):
        design = ("store drop", "empty", "alone")
        both = "look 0, fetch 0, store 1, look 2, fetch 2, "
        self.assertEqual(cache(design, CALM, both + "fill 0"), 0)
        self.assertEqual(cache(design, CALM, both + "fill 0, fill 2"), 0)
        self.assertEqual(cache(design, CALM, both + "fill 2, fill 0"), 1)
        self.assertEqual(cache(design, CALM, both + "fill 0, drop 1, fill 2"), 1)
        self.assertEqual(cache(design, CALM, both + "fill 2, drop 1, fill 0"), 0)

    def test_newer(self):
        design = ("store drop", "newer", "alone")
        both = "look 0, fetch 0, store 1, look 2, fetch 2, "
        self.assertEqual(cache(design, CALM, both + "fill 0, fill 2"), 1)
        self.assertEqual(cache(design, CALM, both + "fill 2, fill 0"), 1)
        self.assertEqual(cache(design, CALM, both + "fill 2, drop 1, fill 0"), 0)

    def test_newer_at_a_version_equal_to_the_one_held(self):
        text = "store 0, look 1, fetch 1, look 2, fetch 2, fill 1, fill 2"
        self.assertEqual(state(("store drop", "newer", "alone"), CALM, run_of(text)), (1, 0, 1, 0))

    def test_mark(self):
        design = ("store drop", "mark", "alone")
        self.assertIsNone(cache(design, CALM, "look 0, fetch 0, store 1, drop 1, fill 0"))
        self.assertEqual(cache(design, CALM, "look 0, fetch 0, store 1, fill 0"), 0)
        both = "look 0, fetch 0, store 1, look 2, fetch 2, "
        self.assertEqual(cache(design, CALM, both + "fill 2, fill 0"), 1)
        self.assertEqual(cache(design, CALM, both + "fill 0, fill 2"), 1)

    def test_mark_at_a_version_equal_to_the_mark(self):
        design = ("store drop", "mark", "alone")
        text = "store 0, drop 0, look 1, fetch 1"
        self.assertEqual(state(design, CALM, run_of(text)), (1, 0, None, 1))
        self.assertEqual(state(design, CALM, run_of(text + ", fill 1")), (1, 0, 1, 1))
        self.assertEqual(state(design, CALM, run_of("look 0, fetch 0, fill 0")), (0, 0, 0, 0))

    def test_mark_0_after_an_eviction(self):
        design = ("store drop", "mark", "alone")
        self.assertEqual(cache(design, EVICTS, "look 0, fetch 0, store 1, drop 1, evict, fill 0"), 0)

    def test_mark_with_a_replica_behind(self):
        design = ("store drop", "mark", "alone")
        text = "store 0, drop 0, look 1, fetch 1, copy, fill 1"
        self.assertIsNone(cache(design, REPLICA, text))
        self.assertEqual(operations(design, REPLICA, run_of(text))[1], ("read", "ended", 0))

    def test_token_when_a_write_drops_between_look_and_fill(self):
        design = ("store drop", "token", "alone")
        self.assertIsNone(cache(design, CALM, "look 0, store 1, drop 1, fetch 0, fill 0"))
        self.assertIsNone(cache(design, CALM, "look 0, fetch 0, store 1, drop 1, fill 0"))
        self.assertIsNone(cache(design, CALM, "store 0, look 1, drop 0, fetch 1, fill 1"))
        self.assertEqual(cache(design, CALM, "store 0, drop 0, look 1, fetch 1, fill 1"), 1)
        self.assertEqual(cache(design, CALM, "look 0, fetch 0, store 1, fill 0"), 0)

    def test_token_when_a_write_drops_before_its_store(self):
        design = ("drop store", "token", "alone")
        self.assertIsNone(cache(design, CALM, "look 0, fetch 0, drop 1, fill 0"))
        self.assertEqual(cache(design, CALM, "drop 0, look 1, fetch 1, store 0, fill 1"), 0)

    def test_token_when_a_write_sets_between_look_and_fill(self):
        design = ("store set", "token", "alone")
        self.assertEqual(cache(design, CALM, "look 0, fetch 0, store 1, set 1, fill 0"), 1)
        self.assertEqual(cache(design, CALM, "look 0, fetch 0, store 1, fill 0"), 0)
        self.assertIsNone(cache(design, EVICTS, "look 0, fetch 0, store 1, set 1, evict, fill 0"))

    def test_token_does_not_mind_fills_and_evictions(self):
        design = ("store drop", "token", "alone")
        text = "look 0, fetch 0, store 1, look 2, fetch 2, fill 2, "
        self.assertEqual(cache(design, EVICTS, text + "fill 0"), 0)
        self.assertEqual(cache(design, EVICTS, text + "evict, fill 0"), 0)

    def test_token_counts_from_the_look_of_each_read(self):
        design = ("store drop", "token", "alone")
        text = "look 0, store 1, look 2, drop 1, look 3, fetch 0, fetch 2, fetch 3, "
        for number, held in ((0, None), (2, None), (3, 1)):
            self.assertEqual(cache(design, CALM, text + f"fill {number}"), held)

    def test_never(self):
        for path in ("drop store", "drop store drop", "store", "store drop", "store set"):
            for flight in ("alone", "shared"):
                design = (path, "never", flight)
                self.assertEqual(operations(design, CALM, run_of("look 0, fetch 0")), (("read", "ended", 0),))
                self.assertIsNone(cache(design, CALM, "look 0, fetch 0"))
                self.assertEqual(steps_of(design, CALM, "look 0, fetch 0", 0), [])

    def test_the_read_returns_what_it_took_in_any_case(self):
        text = "look 0, fetch 0, store 1, look 2, fetch 2, fill 2, drop 1, fill 0"
        for guard in ("always", "empty", "mark", "newer", "token"):
            found = operations(("store drop", guard, "alone"), CALM, run_of(text))
            self.assertEqual(found, (("read", "ended", 0), ("write", "ended", 1), ("read", "ended", 1)), guard)
        kept = "look 0, fetch 0, store 1, set 1, fill 0"
        for guard in ("empty", "mark", "newer", "token"):
            self.assertEqual(cache(("store set", guard, "alone"), CALM, kept), 1)
            self.assertEqual(operations(("store set", guard, "alone"), CALM, run_of(kept))[0], ("read", "ended", 0))


class FlightTest(unittest.TestCase):
    def test_alone_reads_do_not_wait(self):
        run = run_of("look 0, look 1")
        self.assertEqual(operations(ALONE, CALM, run), (("read", "fetch", None), ("read", "fetch", None)))

    def test_a_read_waits_while_a_flight_is_open(self):
        for text, stage in (("look 0, look 1", "fetch"), ("look 0, fetch 0, look 1", "fill")):
            found = operations(SHARED, CALM, run_of(text))
            self.assertEqual(found[0][1], stage)
            self.assertEqual(found[1], ("read", "waits", None))
            self.assertEqual(steps_of(SHARED, CALM, text, 1), [])

    def test_take_comes_only_once_the_read_has_ended(self):
        text = "look 0, look 1"
        for step in (", fetch 0", ", store 2", ", drop 2"):
            text += step
            self.assertIs(is_run(SHARED, CALM, run_of(text + ", take 1")), False)
        text += ", fill 0"
        self.assertEqual(steps_of(SHARED, CALM, text, 1), ["take"])
        self.assertEqual(operations(SHARED, CALM, run_of(text))[1], ("read", "waits", None))
        self.assertEqual(operations(SHARED, CALM, run_of(text + ", take 1"))[1], ("read", "ended", 0))
        self.assertEqual(steps_of(SHARED, CALM, text + ", take 1", 1), [])

    def test_take_returns_what_that_read_returned(self):
        text = "store 0, look 1, look 2, fetch 1, look 3, fill 1, store 4, drop 4, take 3, take 2"
        found = operations(SHARED, CALM, run_of(text))
        self.assertEqual(found[1:4], (("read", "ended", 1),) * 3)

    def test_take_leaves_the_cache(self):
        self.assertIsNone(cache(SHARED, CALM, "look 0, look 1, fetch 0, fill 0, store 2, drop 2, take 1"))

    def test_take_with_the_guard_never(self):
        design = ("store drop", "never", "shared")
        self.assertEqual(steps_of(design, CALM, "look 0, look 1", 1), [])
        self.assertEqual(steps_of(design, CALM, "look 0, look 1, fetch 0", 1), ["take"])
        found = operations(design, CALM, run_of("look 0, look 1, store 2, fetch 0, take 1"))
        self.assertEqual(found[:2], (("read", "ended", 1), ("read", "ended", 1)))

    def test_only_a_waiting_read_takes(self):
        for design, text in ((ALONE, "look 0, look 1, fetch 0, fill 0"), (SHARED, "look 0"),
                             (SHARED, "look 0, fetch 0"), (SHARED, "look 0, fetch 0, fill 0")):
            for number in (0, 1, 2):
                self.assertIs(is_run(design, CALM, run_of(text + f", take {number}")), False)

    def test_a_waiting_read_neither_fetches_nor_fills(self):
        for text in ("look 0, look 1", "look 0, look 1, fetch 0, fill 0"):
            for word in ("look", "fetch", "fill"):
                self.assertIs(is_run(SHARED, CALM, run_of(text + f", {word} 1")), False)

    def test_a_flight_closes_when_its_read_ends(self):
        text = "look 0, look 1, fetch 0, fill 0, store 2, drop 2, look 3"
        self.assertEqual(operations(SHARED, CALM, run_of(text))[3], ("read", "fetch", None))
        text += ", look 4, fetch 3, fill 3, take 1, take 4"
        found = operations(SHARED, CALM, run_of(text))
        self.assertEqual([found[number][2] for number in (0, 1, 3, 4)], [0, 0, 1, 1])

    def test_a_waiting_read_opens_no_flight(self):
        design = ("store drop", "never", "shared")
        found = operations(design, CALM, run_of("look 0, look 1, fetch 0, look 2, look 3"))
        self.assertEqual([one[1] for one in found], ["ended", "waits", "fetch", "waits"])
        text = "look 0, look 1, fetch 0, look 2, look 3"
        self.assertEqual(steps_of(design, CALM, text, 1), ["take"])
        self.assertEqual(steps_of(design, CALM, text, 3), [])

    def test_a_hit_opens_no_flight(self):
        text = "store 0, set 0, look 1, evict, look 2, look 3"
        found = operations(SHARED_SET, EVICTS, run_of(text))
        self.assertEqual([one[1] for one in found], ["ended", "ended", "fetch", "waits"])

    def test_writes_do_not_close_flights(self):
        text = "look 0, store 1, drop 1, look 2"
        self.assertEqual(operations(SHARED, CALM, run_of(text))[2], ("read", "waits", None))


class StopTest(unittest.TestCase):
    def stops(self, design, world, text):
        return [event[1] for event in can_follow(design, world, run_of(text)) if event[0] == "stop"]

    def test_only_with_stops(self):
        for world in all_worlds():
            found = self.stops(ALONE, world, "look 0, store 1")
            self.assertEqual(found, [0, 1] if world[2] == "stops" else [])
            self.assertIs(is_run(ALONE, world, run_of("look 0, stop 0")), world[2] == "stops")

    def test_only_operations_under_way(self):
        self.assertEqual(self.stops(ALONE, STOPS, ""), [])
        self.assertEqual(self.stops(ALONE, STOPS, "look 0, fetch 0, fill 0, look 1, store 2, drop 2"), [])
        self.assertEqual(self.stops(ALONE, STOPS, "store 0, stop 0"), [])
        self.assertEqual(self.stops(ALONE, STOPS, "store 0, stop 0, look 1, fetch 1"), [1])
        self.assertEqual(self.stops(("store", "always", "alone"), STOPS, "store 0"), [])

    def test_after_every_step(self):
        for design in all_designs():
            begun = can_follow(design, ROUGH, ())
            for event in begun:
                under_way = operations(design, ROUGH, (event,))[0][1] != "ended"
                self.assertIs(is_run(design, ROUGH, (event, ("stop", 0))), under_way)
                self.assertIs(is_run(design, ROUGH, (event, ("stop", 0), ("stop", 0))), False)

    def test_a_stopped_operation_does_nothing_more(self):
        for text, number in (("look 0, stop 0", 0), ("look 0, fetch 0, stop 0", 0), ("look 0, store 1, stop 1", 1)):
            self.assertEqual(steps_of(ALONE, STOPS, text, number), [])
            self.assertEqual(operations(ALONE, STOPS, run_of(text))[number][1], "stopped")

    def test_what_was_stored_or_taken_is_kept(self):
        text = "store 0, look 1, fetch 1, look 2, stop 0, stop 1, stop 2"
        found = operations(ALONE, STOPS, run_of(text))
        self.assertEqual(found, (("write", "stopped", 1), ("read", "stopped", 1), ("read", "stopped", None)))
        found = operations(("drop store", "always", "alone"), STOPS, run_of("drop 0, stop 0"))
        self.assertEqual(found, (("write", "stopped", None),))

    def test_a_stop_leaves_the_versions(self):
        text = "look 0, fetch 0, fill 0, store 1"
        self.assertEqual(state(ALONE, STOPS, run_of(text + ", stop 1")), (1, 0, 0, 0))

    def test_the_flight_of_a_stopped_read_stays_open(self):
        for text in ("look 0, stop 0, look 1", "look 0, fetch 0, stop 0, look 1", "look 0, look 1, stop 0"):
            self.assertEqual(operations(SHARED, STOPS, run_of(text))[1], ("read", "waits", None))
            self.assertEqual(steps_of(SHARED, STOPS, text, 1), ["stop"])
            self.assertEqual(operations(SHARED, STOPS, run_of(text + ", look 2"))[2], ("read", "waits", None))

    def test_hits_beside_the_flight_of_a_stopped_read(self):
        text = "look 0, stop 0, store 1, set 1, look 2"
        self.assertEqual(operations(SHARED_SET, STOPS, run_of(text))[2], ("read", "ended", 1))

    def test_a_waiting_read_stops(self):
        text = "look 0, look 1, stop 1"
        self.assertEqual(operations(SHARED, STOPS, run_of(text)), (("read", "fetch", None), ("read", "stopped", None)))
        text += ", fetch 0, fill 0"
        self.assertEqual(steps_of(SHARED, STOPS, text, 1), [])
        self.assertEqual(operations(SHARED, STOPS, run_of(text))[0], ("read", "ended", 0))

    def test_a_stopped_waiting_read_leaves_the_flight(self):
        text = "look 0, look 1, stop 1, look 2"
        self.assertEqual(operations(SHARED, STOPS, run_of(text))[2], ("read", "waits", None))
        text += ", fetch 0, fill 0, take 2"
        self.assertEqual(operations(SHARED, STOPS, run_of(text))[2], ("read", "ended", 0))

    def test_a_waiting_read_stops_once_it_could_take(self):
        text = "look 0, look 1, fetch 0, fill 0"
        self.assertEqual(steps_of(SHARED, STOPS, text, 1), ["stop", "take"])
        self.assertEqual(operations(SHARED, STOPS, run_of(text + ", stop 1"))[1], ("read", "stopped", None))

    def test_a_stopped_write_counts_for_the_token_only_if_it_dropped(self):
        design = ("store drop", "token", "alone")
        self.assertEqual(cache(design, STOPS, "look 0, fetch 0, store 1, stop 1, fill 0"), 0)


if __name__ == "__main__":
    unittest.main()
