"""A second reading of points 8 and 9, against which the package is compared.

Which promises a run breaks is asked of model.py, which looks at the list of all events again
for each answer; an order of the operations is searched for by trying, and what a new operation
would do by letting it do its steps.
"""

from model import Model


def broken(design, world, run):
    """Return the tuple of the promises that a run breaks, ascending."""
    history = History(design, world, run)
    return tuple([name for name in sorted(ASKED) if ASKED[name](history)])


class History:
    """What model.py tells of a run, with the places of its events."""

    def __init__(self, design, world, run):
        self.design, self.world, self.run = design, world, tuple(run)
        self.model = Model(design, world, run)
        self.length = len(self.run)
        self.numbers = range(self.model.many(self.length))
        self.reads = [one for one in self.numbers if self.model.kind(one) == "read"]
        self.writes = [one for one in self.numbers if self.model.kind(one) == "write"]
        self.stages = [self.model.stage(one) for one in self.numbers]
        self.versions = [self.model.version(one, self.length) for one in self.numbers]
        self.database, self.replica, self.cache, self.mark = self.model.state()
        self.begins = [self.model.places(one, self.length)[0] for one in self.numbers]

    def end(self, number):
        """The place of the last step of an operation that has ended, else None."""
        return self.model.places(number, self.length)[-1] if self.stages[number] == "ended" else None

    def leaves(self, number):
        """The place from which on an operation is not under way, None if it still is."""
        if self.stages[number] == "stopped":
            return self.run.index(("stop", number))
        return self.end(number)

    def comes_before(self, first, second):
        """Whether an operation ended before another one began."""
        return self.end(first) is not None and self.end(first) < self.begins[second]

    def is_quiet(self):
        return all(stage in ("ended", "stopped") for stage in self.stages)

    def last_read(self):
        """The read that the last event ended, as a list of one number or none."""
        return [one for one in self.reads if self.end(one) == self.length - 1]

    def after_alone(self, word):
        """The history after a new operation with a first word has done its steps, and its number."""
        number, events = len(self.numbers), [(word, len(self.numbers))]
        while events:
            self = History(self.design, self.world, self.run + (events[0],))
            events = [one for one in self.model.can_follow() if one[1:] == (number,) and one[0] != "stop"]
        return self, number


def is_behind(history):
    return history.cache is not None and history.cache < history.database


def ending(history):
    waiting = [one for one in history.reads if history.stages[one] == "waits"]
    return any(history.stages[history.model.awaited(one)] == "stopped" for one in waiting)


def filled(history):
    if not history.is_quiet():
        return False
    after, number = history.after_alone("look")
    return after.stages[number] != "ended" or after.cache is None or after.cache != after.versions[number]


def forward(history):
    return any(history.comes_before(other, one) and history.versions[one] < history.versions[other]
               for one in history.last_read() for other in history.reads)


def fresh(history):
    return any(history.comes_before(other, one) and history.versions[one] < history.versions[other]
               for one in history.last_read() for other in history.writes)


def linear(history):
    reads = [one for one in history.reads if history.stages[one] == "ended"]
    returned = {history.versions[one] for one in reads}
    writes = [one for one in history.writes
              if history.stages[one] == "ended" or history.versions[one] in returned]
    return not has_order(history, frozenset(reads + writes), 0, set())


def has_order(history, left, version, tried):
    """Whether the operations that are left have an order after those before, of which the last wrote a version."""
    if not left:
        return True
    if (left, version) in tried:
        return False
    tried.add((left, version))
    for one in left:
        if any(history.comes_before(other, one) for other in left):
            continue
        is_read = one in history.reads
        if is_read and history.versions[one] != version:
            continue
        if has_order(history, left - {one}, version if is_read else history.versions[one], tried):
            return True
    return False


def mended(history):
    return history.is_quiet() and is_behind(history.after_alone(history.model.words[0])[0])


def moving(history):
    events = history.model.can_follow()
    for one in history.numbers:
        steps = [event for event in events if event[1:] == (one,) and event[0] != "stop"]
        if history.stages[one] not in ("ended", "stopped") and not steps:
            return True
    return False


def quiet(history):
    for one in history.last_read():
        # The places at which a write was under way, its own events among them.
        busy = [place for write in history.writes for place in range(history.length)
                if history.begins[write] <= place
                and (history.leaves(write) is None or place <= history.leaves(write))]
        if history.versions[one] < history.database and not any(place >= history.begins[one] for place in busy):
            return True
    return False


def rest(history):
    return history.is_quiet() and is_behind(history)


def single(history):
    return len([one for one in history.reads if history.stages[one] in ("fetch", "fill")]) >= 2


ASKED = {
    "ending": ending, "filled": filled, "forward": forward, "fresh": fresh, "linear": linear,
    "mended": mended, "moving": moving, "quiet": quiet, "rest": rest, "single": single,
}

# Point 9, as rows of words: a promise holds if one row of it fits a design and a world at all six places.
ANY = None
UNSET = ("drop store", "drop store drop", "store", "store drop")
DROP_LAST = ("drop store drop", "store drop")
CONDITIONS = {
    "ending": [
        (ANY, ANY, "alone", ANY, ANY, ANY),
        (ANY, ANY, ANY, ANY, ANY, "finishes")],
    "filled": [
        (ANY, ("always", "empty", "newer", "token"), "alone", ANY, ANY, ANY),
        (ANY, ("always", "empty", "newer", "token"), ANY, ANY, ANY, "finishes"),
        (("drop store", "store", "store set"), "mark", "alone", ANY, ANY, ANY),
        (("drop store", "store", "store set"), "mark", ANY, ANY, ANY, "finishes"),
        (ANY, "mark", "alone", "primary", ANY, ANY),
        (ANY, "mark", ANY, "primary", ANY, "finishes")],
    "forward": [
        (UNSET, "never", ANY, ANY, ANY, ANY),
        (UNSET, ANY, "shared", ANY, ANY, ANY),
        (ANY, "mark", ANY, ANY, "keeps", ANY),
        (("store", "store set"), "newer", ANY, ANY, "keeps", ANY)],
    "fresh": [
        ("store set", ("mark", "newer"), ANY, ANY, "keeps", ANY),
        (UNSET, "never", ANY, "primary", ANY, ANY),
        (DROP_LAST, "token", "alone", "primary", ANY, ANY),
        (DROP_LAST, "mark", "alone", "primary", "keeps", ANY)],
    "linear": [
        ("store set", ("mark", "newer"), ANY, ANY, "keeps", ANY),
        (UNSET, "never", ANY, "primary", ANY, ANY),
        (DROP_LAST, "mark", "alone", "primary", "keeps", ANY)],
    "mended": [
        (("drop store", "drop store drop", "store drop", "store set"), ANY, ANY, ANY, ANY, ANY),
        ("store", "never", ANY, ANY, ANY, ANY)],
    "moving": [
        (ANY, ANY, "alone", ANY, ANY, ANY)],
    "quiet": [
        (UNSET, "never", ANY, "primary", ANY, ANY),
        ("store set", ("mark", "newer"), ANY, ANY, "keeps", "finishes"),
        (DROP_LAST, "token", "alone", "primary", ANY, "finishes"),
        (DROP_LAST, "mark", "alone", "primary", "keeps", "finishes")],
    "rest": [
        (UNSET, "never", ANY, ANY, ANY, ANY),
        ("store set", ("mark", "newer"), ANY, ANY, "keeps", "finishes"),
        (DROP_LAST, "token", ANY, "primary", ANY, "finishes"),
        (DROP_LAST, "mark", ANY, ANY, "keeps", "finishes")],
    "single": [
        (ANY, ANY, "shared", ANY, ANY, ANY)],
}


def is_kept(design, world, promise):
    """Return whether a promise holds, by the rows above."""
    return any(all(fits(*pair) for pair in zip(row, design + world)) for row in CONDITIONS[promise])


def fits(wanted, word):
    return wanted is ANY or word == wanted or (isinstance(wanted, tuple) and word in wanted)


def has_circle(history):
    """Return whether versions would have to stand before themselves: "linear" for runs too long to search."""
    reads = [one for one in history.reads if history.stages[one] == "ended"]
    returned = {history.versions[one] for one in reads}
    writes = [one for one in history.writes
              if history.stages[one] == "ended" or history.versions[one] in returned]
    groups = {0: []}
    for one in reads + writes:
        groups.setdefault(history.versions[one], []).append(one)
    before = {(0, version) for version in groups if version} | {
        (one, other) for one in groups for other in groups if one != other
        and any(history.comes_before(first, last) for first in groups[one] for last in groups[other])}
    for middle in groups:
        before |= {(one, other) for one in groups for other in groups
                   if (one, middle) in before and (middle, other) in before}
    return any((version, version) in before for version in groups)
