"""Point 8: the promises about what stands after a run: ending, filled, mended, moving, rest, single."""

import unittest

from cases import COPIED, EVICTING, PLAIN, SET, SHARED, STOPPING, STORE, PromiseCase
from support import CALM

SET_SHARED = ("store set", "always", "shared")
STORE_SHARED = ("store", "always", "shared")


class EndingTest(PromiseCase):
    promise = "ending"

    def test_no_events(self):
        self.keeps(SHARED, STOPPING, "")

    def test_a_read_that_waits_for_one_that_has_stopped(self):
        self.breaks(SHARED, STOPPING, "look 0, look 1, stop 0", "look 0, stop 0, look 1",
                    "look 0, fetch 0, look 1, stop 0", "look 0, fetch 0, stop 0, look 1",
                    "look 0, look 1, look 2, stop 0, stop 1")

    def test_a_read_that_waits_for_one_that_goes_on(self):
        self.keeps(SHARED, STOPPING, "look 0, look 1", "look 0, look 1, fetch 0")

    def test_a_read_that_waits_for_one_that_has_ended(self):
        self.keeps(SHARED, STOPPING, "look 0, look 1, fetch 0, fill 0")

    def test_a_waiting_read_that_has_stopped_or_ended_itself(self):
        self.keeps(SHARED, STOPPING, "look 0, look 1, stop 1", "look 0, look 1, stop 0, stop 1",
                   "look 0, look 1, stop 1, stop 0", "look 0, look 1, fetch 0, fill 0, take 1",
                   "look 0, look 1, fetch 0, fill 0, stop 1", "look 0, stop 0, look 1, stop 1")

    def test_no_read_waits(self):
        self.keeps(SHARED, STOPPING, "look 0, stop 0", "look 0, stop 0, store 1", "store 0, stop 0, look 1",
                   "store 0, stop 0, look 1, look 2")
        self.keeps(SET_SHARED, STOPPING, "look 0, stop 0, store 1, set 1, look 2")
        self.keeps(PLAIN, STOPPING, "look 0, stop 0, look 1", "look 0, look 1, stop 0")

    def test_it_lasts_while_the_read_waits(self):
        self.breaks(SHARED, STOPPING, "look 0, look 1, stop 0, store 2, drop 2")
        self.keeps(SHARED, STOPPING, "look 0, look 1, stop 0, store 2, stop 1")


class FilledTest(PromiseCase):
    promise = "filled"

    def test_no_events(self):
        self.keeps(PLAIN, CALM, "")
        self.keeps(SHARED, STOPPING, "")
        self.breaks(("store drop", "never", "alone"), CALM, "")
        self.breaks(("store set", "never", "shared"), COPIED, "")

    def test_guard_never(self):
        self.breaks(("store drop", "never", "alone"), CALM, "look 0, fetch 0", "store 0, drop 0")
        self.keeps(("store drop", "never", "alone"), CALM, "look 0", "store 0")

    def test_guard_never_and_a_cache_that_holds_a_version(self):
        self.keeps(("store set", "never", "alone"), EVICTING, "store 0, set 0", "store 0, store 1, set 1, set 0")
        self.breaks(("store set", "never", "alone"), EVICTING, "store 0, set 0, evict")

    def test_a_flight_that_is_open_for_ever(self):
        self.breaks(SHARED, STOPPING, "look 0, stop 0", "look 0, fetch 0, stop 0", "look 0, look 1, stop 0, stop 1",
                    "look 0, stop 0, look 1, stop 1", "look 0, stop 0, store 1, drop 1")
        self.keeps(SHARED, STOPPING, "look 0, fetch 0, fill 0", "look 0, look 1, fetch 0, fill 0, stop 1",
                   "look 0, look 1, fetch 0, fill 0, take 1")
        self.keeps(PLAIN, STOPPING, "look 0, stop 0", "look 0, fetch 0, stop 0")

    def test_a_flight_that_is_open_for_ever_and_a_cache_that_holds_a_version(self):
        self.keeps(SET_SHARED, STOPPING, "look 0, stop 0, store 1, set 1")
        self.breaks(SET_SHARED, STOPPING, "look 0, stop 0, store 1, stop 1")
        self.breaks(SET_SHARED, ("primary", "evicts", "stops"), "look 0, stop 0, store 1, set 1, evict")

    def test_an_operation_under_way(self):
        self.keeps(SHARED, STOPPING, "look 0", "look 0, stop 0, look 1", "look 0, stop 0, store 1",
                   "look 0, look 1, stop 1")

    def test_a_mark_above_the_version_of_the_replica(self):
        design = ("store drop", "mark", "alone")
        self.breaks(design, COPIED, "store 0, drop 0", "store 0, drop 0, copy, store 1, drop 1",
                    "store 0, drop 0, store 1, drop 1, copy", "store 0, store 1, copy, drop 1, drop 0")
        self.keeps(design, COPIED, "store 0", "store 0, drop 0, copy", "store 0, copy, drop 0",
                   "store 0, drop 0, store 1, copy", "store 0, drop 0, store 1, drop 1, copy, copy")
        self.keeps(design, CALM, "store 0, drop 0")
        self.breaks(("drop store drop", "mark", "shared"), COPIED, "drop 0, store 0, drop 0")

    def test_a_mark_above_the_version_of_the_replica_that_evictions_take_away(self):
        design, world = ("store drop", "mark", "alone"), ("replica", "evicts", "finishes")
        self.breaks(design, world, "store 0, drop 0")
        self.keeps(design, world, "store 0, drop 0, evict")

    def test_a_mark_above_the_version_of_the_replica_and_a_cache_that_holds_a_version(self):
        self.keeps(("store set", "mark", "alone"), COPIED, "store 0, set 0", "store 0, store 1, set 1, set 0")

    def test_a_mark_that_is_not_above_the_version_of_the_replica(self):
        self.keeps(("drop store", "mark", "alone"), COPIED, "drop 0, store 0", "drop 0, store 0, drop 1, store 1")
        self.keeps(("store", "mark", "alone"), COPIED, "store 0", "store 0, look 1, fetch 1, fill 1")

    def test_other_guards_with_a_replica(self):
        for guard in ("always", "empty", "newer", "token"):
            self.keeps(("store drop", guard, "alone"), COPIED, "store 0, drop 0", "store 0, look 1, fetch 1, drop 0, "
                       "fill 1")


class MendedTest(PromiseCase):
    promise = "mended"

    def test_no_events(self):
        for path in ("drop store", "drop store drop", "store", "store drop", "store set"):
            self.keeps((path, "always", "alone"), CALM, "")

    def test_a_cache_that_holds_a_version(self):
        self.breaks(STORE, EVICTING, "look 0, fetch 0, fill 0", "store 0, look 1, fetch 1, fill 1",
                    "look 0, fetch 0, fill 0, look 1", "look 0, fetch 0, fill 0, store 1")
        self.keeps(STORE, EVICTING, "look 0, fetch 0, fill 0, evict", "store 0", "look 0, fetch 0")

    def test_other_paths_and_a_cache_that_holds_a_version(self):
        for path in ("drop store", "drop store drop", "store drop", "store set"):
            for guard in ("always", "empty", "mark", "newer", "token"):
                self.keeps((path, guard, "alone"), COPIED, "look 0, fetch 0, fill 0")
        self.keeps(SET, CALM, "store 0, store 1, set 1, set 0")

    def test_an_operation_under_way(self):
        self.keeps(STORE, STOPPING, "look 0, look 1, fetch 0, fill 0")
        self.breaks(STORE, STOPPING, "look 0, look 1, fetch 0, fill 0, fetch 1, fill 1",
                    "look 0, look 1, fetch 0, fill 0, stop 1")

    def test_guard_never(self):
        self.keeps(("store", "never", "alone"), CALM, "look 0, fetch 0", "store 0, look 1, fetch 1")
        self.keeps(("store set", "never", "alone"), CALM, "store 0, set 0")

    def test_a_mark_above_the_version_of_the_replica(self):
        self.keeps(("store set", "mark", "alone"), COPIED, "store 0, set 0", "store 0, store 1, set 1, set 0")
        self.keeps(("store drop", "mark", "alone"), COPIED, "store 0, drop 0")
        self.breaks(("store", "mark", "alone"), COPIED, "store 0, look 1, fetch 1, fill 1")

    def test_a_flight_that_is_open_for_ever(self):
        self.keeps(STORE_SHARED, STOPPING, "look 0, stop 0", "look 0, stop 0, store 1")
        self.breaks(STORE_SHARED, STOPPING, "look 0, fetch 0, fill 0")
        self.keeps(SET_SHARED, STOPPING, "look 0, stop 0, store 1, set 1")


class MovingTest(PromiseCase):
    promise = "moving"

    def test_no_events(self):
        self.keeps(SHARED, CALM, "")

    def test_a_leader_that_goes_on(self):
        self.breaks(SHARED, STOPPING, "look 0, look 1", "look 0, fetch 0, look 1", "look 0, look 1, fetch 0",
                    "look 0, look 1, look 2, stop 1")
        self.keeps(SHARED, STOPPING, "look 0, look 1, stop 1")

    def test_a_leader_that_has_ended(self):
        self.keeps(SHARED, STOPPING, "look 0, look 1, fetch 0, fill 0",
                   "look 0, look 1, look 2, fetch 0, fill 0, take 2")
        self.keeps(("store", "never", "shared"), CALM, "look 0, look 1, fetch 0", "look 0, look 1, fetch 0, take 1")
        self.breaks(("store", "never", "shared"), CALM, "look 0, look 1", "look 0, look 1, fetch 0, look 2, look 3")

    def test_a_leader_that_has_stopped(self):
        self.breaks(SHARED, STOPPING, "look 0, look 1, stop 0", "look 0, stop 0, look 1")
        self.keeps(SHARED, STOPPING, "look 0, look 1, stop 0, stop 1", "look 0, stop 0")

    def test_no_read_waits(self):
        self.keeps(SHARED, CALM, "look 0", "look 0, store 1", "look 0, fetch 0, fill 0, look 1")
        self.keeps(PLAIN, CALM, "look 0, look 1", "look 0, look 1, store 2")


class RestTest(PromiseCase):
    promise = "rest"

    def test_no_events(self):
        self.keeps(STORE, CALM, "")

    def test_equal_versions_and_versions_older_by_one(self):
        self.breaks(STORE, CALM, "look 0, fetch 0, fill 0, store 1", "look 0, fetch 0, store 1, fill 0",
                    "look 0, fetch 0, fill 0, store 1, store 2")
        self.keeps(STORE, CALM, "look 0, fetch 0, fill 0", "store 0, look 1, fetch 1, fill 1")

    def test_a_cache_that_holds_nothing(self):
        self.keeps(STORE, EVICTING, "store 0", "look 0, fetch 0, fill 0, store 1, evict")

    def test_an_operation_under_way(self):
        self.keeps(PLAIN, STOPPING, "look 0, fetch 0, fill 0, store 1", "look 0, fetch 0, fill 0, store 1, drop 1")
        self.breaks(PLAIN, STOPPING, "look 0, fetch 0, fill 0, store 1, stop 1")
        self.keeps(STORE, STOPPING, "look 0, look 1, fetch 0, fill 0, store 2")
        self.breaks(STORE, STOPPING, "look 0, look 1, fetch 0, fill 0, store 2, stop 1")
        self.keeps(SHARED, STOPPING, "look 0, fetch 0, look 1, store 2, drop 2, fill 0")
        self.breaks(SHARED, STOPPING, "look 0, fetch 0, look 1, store 2, drop 2, fill 0, take 1")

    def test_a_read_that_hits_changes_nothing(self):
        self.breaks(STORE, CALM, "look 0, fetch 0, fill 0, store 1, look 2")

    def test_set_by_an_older_write(self):
        self.breaks(SET, CALM, "store 0, store 1, set 1, set 0")
        self.keeps(SET, CALM, "store 0, store 1, set 0, set 1", "store 0, store 1, set 1")

    def test_a_replica_that_is_behind(self):
        self.breaks(STORE, COPIED, "store 0, look 1, fetch 1, fill 1", "store 0, look 1, fetch 1, fill 1, copy")
        self.keeps(STORE, COPIED, "store 0, copy, look 1, fetch 1, fill 1")


class SingleTest(PromiseCase):
    promise = "single"

    def test_no_events(self):
        self.keeps(PLAIN, CALM, "")

    def test_two_reads_that_fetch_or_fill(self):
        self.breaks(PLAIN, CALM, "look 0, look 1", "look 0, fetch 0, look 1", "look 0, look 1, fetch 1",
                    "look 0, fetch 0, look 1, fetch 1", "look 0, look 1, look 2")
        self.keeps(PLAIN, CALM, "look 0", "look 0, fetch 0")

    def test_a_read_that_waits(self):
        self.keeps(SHARED, CALM, "look 0, look 1", "look 0, fetch 0, look 1",
                   "look 0, fetch 0, look 1, store 2, fill 0, drop 2, look 3")

    def test_a_read_that_has_ended(self):
        self.keeps(PLAIN, EVICTING, "look 0, fetch 0, fill 0, look 1", "look 0, fetch 0, fill 0, evict, look 1")
        self.keeps(("store", "never", "alone"), CALM, "look 0, look 1, fetch 0")
        self.breaks(PLAIN, EVICTING, "look 0, look 1, look 2, fetch 0, fill 0")

    def test_a_read_that_has_stopped(self):
        self.keeps(PLAIN, STOPPING, "look 0, stop 0, look 1", "look 0, look 1, stop 1",
                   "look 0, look 1, fetch 0, stop 0")
        self.breaks(PLAIN, STOPPING, "look 0, look 1, look 2, stop 0")

    def test_writes_do_not_count(self):
        self.keeps(PLAIN, CALM, "look 0, store 1", "store 0, store 1", "look 0, fetch 0, store 1, store 2")


if __name__ == "__main__":
    unittest.main()
