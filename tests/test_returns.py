"""Point 8: the promises about what reads return: forward, fresh, linear, quiet."""

import unittest

from cases import COPIED, COPIED_STOPPING, EVICTING, PASSING, PLAIN, SET, SHARED, STOPPING, STORE, PromiseCase
from support import CALM


class ForwardTest(PromiseCase):
    promise = "forward"

    def test_no_events(self):
        self.keeps(PLAIN, CALM, "")
        self.keeps(SHARED, CALM, "")

    def test_a_read_that_ended_before_it_began(self):
        start = "look 0, fetch 0, store 1, drop 1, look 2, fetch 2, fill 2"
        self.breaks(PLAIN, CALM, start + ", fill 0, look 3")
        self.keeps(PLAIN, CALM, start, start + ", fill 0")

    def test_a_read_that_ended_after_it_began(self):
        self.keeps(PLAIN, CALM, "look 0, fetch 0, store 1, drop 1, look 2, fetch 2, fill 2, fill 0")
        self.breaks(PLAIN, COPIED, "look 0, fetch 0, store 1, drop 1, copy, look 2, fetch 2, fill 2, fill 0, look 3")
        self.keeps(PLAIN, COPIED, "look 0, fetch 0, look 1, fetch 1, store 2, drop 2, copy, look 3, fetch 3, fill 3, "
                   "fill 0, fill 1")

    def test_a_read_that_has_not_ended(self):
        self.keeps(PLAIN, CALM, "look 0, fetch 0, store 1, drop 1, look 2, fetch 2, fill 0, look 3")
        self.breaks(PLAIN, CALM, "look 0, fetch 0, store 1, drop 1, look 2, look 3, fetch 2, fill 2, fill 0, look 4")
        self.keeps(PLAIN, STOPPING, "look 0, fetch 0, store 1, drop 1, look 2, fetch 2, stop 2, fill 0, look 3")

    def test_equal_and_newer_versions(self):
        self.keeps(PLAIN, CALM, "look 0, fetch 0, fill 0, look 1")
        self.keeps(PLAIN, CALM, "look 0, fetch 0, fill 0, store 1, drop 1, look 2, fetch 2, fill 2")

    def test_a_version_older_by_two(self):
        self.breaks(STORE, CALM, "look 0, fetch 0, store 1, store 2, look 3, fetch 3, fill 3, fill 0, look 4")

    def test_only_the_last_event_counts(self):
        run = "look 0, fetch 0, store 1, drop 1, look 2, fetch 2, fill 2, fill 0, look 3"
        self.keeps(PLAIN, CALM, run + ", store 4")
        self.breaks(PLAIN, CALM, run + ", store 4, look 5")
        self.keeps(PLAIN, CALM, run + ", store 4, look 5, drop 4")
        self.keeps(PLAIN, STOPPING, run + ", store 4, stop 4")
        self.keeps(PLAIN, EVICTING, run + ", evict", run + ", evict, look 4", run + ", evict, look 4, fetch 4")

    def test_writes_do_not_count(self):
        self.keeps(PLAIN, CALM, "look 0, fetch 0, store 1, drop 1, fill 0, look 2")
        self.keeps(STORE, CALM, "look 0, fetch 0, fill 0, store 1, look 2")

    def test_a_read_that_returns_what_it_waited_for(self):
        design = ("store set", "always", "shared")
        start = "look 0, fetch 0, store 1, set 1, look 2, evict, look 3, fill 0"
        self.breaks(design, EVICTING, start + ", take 3")
        self.keeps(design, EVICTING, start)
        self.keeps(design, CALM, "look 0, fetch 0, look 1, store 2, set 2, look 3, fill 0, take 1")

    def test_a_read_that_fetches_from_the_replica(self):
        self.breaks(("store set", "never", "alone"), ("replica", "evicts", "finishes"),
                    "store 0, set 0, look 1, evict, look 2, fetch 2")
        self.keeps(("store set", "never", "alone"), ("replica", "evicts", "finishes"),
                   "store 0, set 0, look 1, evict, look 2, copy, fetch 2",
                   "store 0, set 0, look 1, evict, look 2",
                   "store 0, look 1, set 0, look 2, fetch 1")

    def test_set_by_an_older_write(self):
        self.breaks(SET, CALM, "store 0, store 1, set 1, look 2, set 0, look 3")
        self.keeps(SET, CALM, "store 0, store 1, set 1, look 2, look 3", "store 0, store 1, set 1, set 0, look 2",
                   "store 0, store 1, set 0, look 2, set 1, look 3")


class FreshTest(PromiseCase):
    promise = "fresh"

    def test_no_events(self):
        self.keeps(PLAIN, CALM, "")
        self.keeps(PASSING, COPIED, "")

    def test_a_write_that_ended_before_the_read_began(self):
        self.breaks(PLAIN, CALM, "look 0, fetch 0, store 1, drop 1, fill 0, look 2")
        self.breaks(STORE, CALM, "look 0, fetch 0, fill 0, store 1, look 2")

    def test_a_write_that_ended_after_the_read_began(self):
        self.keeps(PLAIN, CALM, "look 0, fetch 0, store 1, drop 1, fill 0")
        self.keeps(STORE, CALM, "look 0, fetch 0, store 1, fill 0")

    def test_a_write_that_has_not_ended(self):
        self.keeps(PLAIN, CALM, "look 0, fetch 0, store 1, fill 0, look 2")
        self.breaks(("drop store", "always", "alone"), CALM, "drop 0, look 1, fetch 1, fill 1, store 0, look 2")
        self.keeps(("drop store drop", "always", "alone"), CALM, "drop 0, look 1, fetch 1, fill 1, store 0, look 2")

    def test_a_write_that_has_stopped(self):
        self.keeps(PLAIN, STOPPING, "look 0, fetch 0, fill 0, store 1, stop 1, look 2")
        self.breaks(STORE, STOPPING, "look 0, fetch 0, fill 0, store 1, look 2")

    def test_equal_versions_and_versions_older_by_one(self):
        self.keeps(PLAIN, CALM, "store 0, drop 0, look 1, fetch 1, fill 1", "store 0, drop 0, look 1, fetch 1, fill 1, "
                   "look 2")
        self.breaks(PLAIN, CALM, "store 0, drop 0, look 1, fetch 1, store 2, drop 2, fill 1, look 3")
        self.breaks(STORE, CALM, "look 0, fetch 0, fill 0, store 1, store 2, store 3, look 4")

    def test_only_the_last_event_counts(self):
        run = "look 0, fetch 0, fill 0, store 1, look 2"
        self.keeps(STORE, CALM, run + ", store 3", "look 0, fetch 0, fill 0, store 1")
        self.breaks(STORE, CALM, run + ", store 3, look 4")
        self.keeps(STORE, EVICTING, run + ", evict")

    def test_a_read_that_returns_what_it_waited_for(self):
        self.breaks(SHARED, CALM, "look 0, fetch 0, store 1, drop 1, look 2, fill 0, take 2")
        self.keeps(SHARED, CALM, "look 0, fetch 0, store 1, look 2, drop 1, fill 0, take 2",
                   "look 0, fetch 0, store 1, drop 1, look 2, fill 0",
                   "look 0, store 1, drop 1, look 2, fetch 0, fill 0, take 2")

    def test_a_read_that_fetches_from_the_replica(self):
        self.breaks(PASSING, COPIED, "store 0, drop 0, look 1, fetch 1")
        self.keeps(PASSING, COPIED, "store 0, drop 0, copy, look 1, fetch 1", "store 0, drop 0, look 1, copy, fetch 1",
                   "store 0, look 1, drop 0, fetch 1", "store 0, drop 0, look 1")
        self.keeps(PASSING, CALM, "store 0, drop 0, look 1, fetch 1")

    def test_reads_do_not_count(self):
        self.keeps(SET, CALM, "store 0, look 1, fetch 1, fill 1, set 0, look 2")
        self.keeps(PLAIN, CALM, "look 0, fetch 0, store 1, look 2, fetch 2, fill 2, fill 0, look 3")


class LinearTest(PromiseCase):
    promise = "linear"

    def test_no_events_and_no_reads(self):
        self.keeps(SET, CALM, "", "store 0, store 1, set 1, set 0", "store 0, store 1, set 0, set 1")
        self.keeps(STORE, CALM, "store 0, store 1, store 2", "look 0, look 1, look 2")

    def test_writes_side_by_side_have_any_order(self):
        self.keeps(SET, CALM, "store 0, store 1, set 1, set 0, look 2",
                   "store 0, store 1, set 1, look 2, set 0, look 3",
                   "store 0, store 1, set 1, look 2, set 0, look 3, look 4")

    def test_writes_one_after_the_other_have_one_order(self):
        self.breaks(SET, CALM, "store 0, look 1, fetch 1, fill 1, store 2, set 2, set 0, look 3")
        self.keeps(SET, CALM, "store 0, look 1, fetch 1, fill 1, store 2, set 2, look 3",
                   "store 0, look 1, fetch 1, store 2, fill 1, set 2, set 0, look 3")

    def test_two_reads_one_after_the_other(self):
        start = "look 0, fetch 0, store 1, look 2, fetch 2, fill 2, fill 0"
        self.breaks(PLAIN, CALM, start + ", look 3")
        self.keeps(PLAIN, CALM, start)

    def test_a_read_that_has_not_ended(self):
        self.keeps(PLAIN, CALM, "look 0, fetch 0, store 1, look 2, fetch 2, fill 0, look 3")
        self.keeps(PLAIN, STOPPING, "look 0, fetch 0, store 1, look 2, fetch 2, stop 2, fill 0, look 3")
        self.breaks(PLAIN, STOPPING, "look 0, fetch 0, store 1, look 2, fetch 2, fill 2, fill 0, look 3")

    def test_a_write_that_has_not_ended_or_has_stopped_and_was_returned(self):
        start = "look 0, fetch 0, store 1, look 2, fetch 2, fill 2"
        self.keeps(PLAIN, STOPPING, start, start + ", stop 1", start + ", fill 0", start + ", stop 1, fill 0")
        self.breaks(PLAIN, STOPPING, start + ", fill 0, look 3", start + ", stop 1, fill 0, look 3",
                    "look 0, fetch 0, store 1, stop 1, look 2, fetch 2, fill 2, fill 0, look 3")

    def test_a_write_that_has_not_ended_and_was_returned_counts_from_its_beginning(self):
        # Write 3 began after write 2 had ended, but read 0, which returned it, began before.
        start = "look 0, look 1, store 2, drop 2, fetch 1, store 3, fetch 0"
        self.breaks(PLAIN, STOPPING, start + ", fill 0, fill 1, look 4", start + ", stop 3, fill 0, fill 1, look 4",
                    start + ", fill 0, stop 3, fill 1, look 4")
        self.keeps(PLAIN, STOPPING, start + ", fill 0, fill 1", start + ", fill 1, look 4, fill 0",
                   "look 0, look 1, store 2, fetch 1, store 3, fetch 0, drop 2, fill 0, fill 1, look 4",
                   "look 0, look 1, store 2, drop 2, fetch 1, store 3, fetch 0, stop 0, fill 1, look 4")

    def test_a_write_that_was_returned_by_a_read_that_waited(self):
        design = ("store set", "always", "shared")
        self.keeps(design, CALM, "store 0, look 1, look 2, fetch 1, fill 1, take 2")
        self.breaks(design, CALM, "store 0, look 1, look 2, fetch 1, fill 1, take 2, store 3, set 3, set 0, look 4")
        self.keeps(design, CALM, "store 0, look 1, look 2, fetch 1, store 3, set 3, fill 1, take 2, set 0, look 4")

    def test_a_write_that_has_not_ended_or_has_stopped_and_was_not_returned(self):
        self.keeps(PLAIN, STOPPING, "look 0, fetch 0, fill 0, store 1, look 2",
                   "look 0, fetch 0, fill 0, store 1, look 2, stop 1, look 3",
                   "look 0, fetch 0, fill 0, store 1, stop 1, look 2, look 3")

    def test_a_write_that_ended_and_was_not_returned(self):
        self.breaks(STORE, CALM, "look 0, fetch 0, fill 0, store 1, look 2")
        self.keeps(STORE, CALM, "look 0, fetch 0, fill 0, store 1", "look 0, fetch 0, store 1, fill 0",
                   "look 0, fetch 0, fill 0, look 1, store 2")

    def test_a_write_that_ended_after_the_read_began(self):
        self.keeps(SHARED, CALM, "look 0, fetch 0, store 1, look 2, drop 1, fill 0, take 2")
        self.breaks(SHARED, CALM, "look 0, fetch 0, store 1, drop 1, look 2, fill 0, take 2")

    def test_a_write_that_has_not_stored(self):
        design = ("drop store", "always", "alone")
        self.keeps(design, STOPPING, "drop 0, look 1, fetch 1, fill 1, look 2",
                   "drop 0, stop 0, look 1, fetch 1, fill 1")

    def test_what_broke_stays_broken(self):
        run = "look 0, fetch 0, store 1, look 2, fetch 2, fill 2, fill 0, look 3"
        self.breaks(PLAIN, CALM, run + ", drop 1", run + ", store 4, drop 4", run + ", drop 1, look 4, fetch 4, fill 4")

    def test_reads_of_a_version_stand_between_two_writes(self):
        self.keeps(("store", "never", "alone"), CALM,
                   "store 0, look 1, fetch 1, store 2, look 3, fetch 3, look 4, store 5, fetch 4")
        self.breaks(("store", "never", "alone"), COPIED,
                    "store 0, copy, store 1, look 2, fetch 2", "store 0, look 1, fetch 1")
        self.keeps(("store", "never", "alone"), COPIED,
                   "store 0, copy, look 1, store 2, fetch 1", "look 0, store 1, fetch 0")


class QuietTest(PromiseCase):
    promise = "quiet"

    def test_no_events(self):
        self.keeps(STORE, CALM, "")

    def test_equal_versions_and_versions_older_by_one(self):
        self.breaks(STORE, CALM, "look 0, fetch 0, fill 0, store 1, look 2")
        self.keeps(STORE, CALM, "look 0, fetch 0, fill 0, look 1", "store 0, look 1, fetch 1, fill 1, look 2")
        self.breaks(STORE, CALM, "look 0, fetch 0, fill 0, store 1, store 2, look 3")

    def test_a_write_under_way_all_the_time(self):
        self.keeps(PLAIN, CALM, "look 0, fetch 0, fill 0, store 1, look 2")
        self.keeps(PASSING, COPIED, "store 0, look 1, fetch 1")
        self.keeps(("drop store", "never", "alone"), COPIED, "drop 0, store 0, drop 1, look 2, fetch 2")
        self.breaks(("drop store", "never", "alone"), COPIED, "drop 0, store 0, look 1, fetch 1")

    def test_a_write_under_way_at_first(self):
        self.keeps(PASSING, COPIED, "store 0, look 1, drop 0, fetch 1")
        self.breaks(PASSING, COPIED, "store 0, drop 0, look 1, fetch 1")

    def test_a_write_under_way_at_last(self):
        self.keeps(PASSING, COPIED, "store 0, drop 0, look 1, store 2, fetch 1")
        self.breaks(PASSING, COPIED, "store 0, drop 0, look 1, fetch 1, store 2, drop 2, look 3, fetch 3")

    def test_a_write_under_way_in_between(self):
        self.keeps(PASSING, COPIED, "look 0, store 1, drop 1, fetch 0")
        self.keeps(("store", "never", "alone"), COPIED, "look 0, store 1, fetch 0")
        self.breaks(("store", "never", "alone"), COPIED, "store 0, look 1, fetch 1")

    def test_a_write_that_stopped(self):
        self.keeps(PASSING, COPIED_STOPPING, "store 0, look 1, stop 0, fetch 1")
        self.breaks(PASSING, COPIED_STOPPING, "store 0, stop 0, look 1, fetch 1")
        self.keeps(PLAIN, STOPPING, "look 0, fetch 0, fill 0, store 1, look 2, stop 1")
        self.breaks(PLAIN, STOPPING, "look 0, fetch 0, fill 0, store 1, stop 1, look 2")

    def test_one_of_two_writes(self):
        self.keeps(PASSING, COPIED, "store 0, store 1, drop 0, look 2, fetch 2")
        self.breaks(PASSING, COPIED, "store 0, store 1, drop 0, drop 1, look 2, fetch 2")

    def test_a_read_that_returns_what_it_waited_for(self):
        self.breaks(SHARED, CALM, "look 0, fetch 0, store 1, drop 1, look 2, fill 0, take 2")
        self.keeps(SHARED, CALM, "look 0, fetch 0, store 1, drop 1, look 2, fill 0",
                   "look 0, fetch 0, store 1, look 2, drop 1, fill 0, take 2",
                   "look 0, fetch 0, look 1, fill 0, store 2, drop 2, take 1")

    def test_only_the_last_event_counts(self):
        run = "look 0, fetch 0, fill 0, store 1, look 2"
        self.keeps(STORE, CALM, run + ", store 3", "look 0, fetch 0, fill 0, store 1")
        self.keeps(STORE, EVICTING, run + ", evict", run + ", evict, look 3", run + ", evict, look 3, fetch 3, fill 3")

    def test_the_version_is_compared_with_the_database_at_the_end(self):
        self.keeps(PASSING, COPIED, "store 0, drop 0, copy, look 1, fetch 1", "store 0, drop 0, look 1, copy, fetch 1")
        self.breaks(PASSING, COPIED, "store 0, drop 0, copy, store 1, drop 1, look 2, fetch 2")


if __name__ == "__main__":
    unittest.main()
