"""A second reading of points 4 to 7, against which the package is compared.

Each answer is worked out from the list of all events, wherever possible without
any bookkeeping from event to event, so that little is shared with the package.
"""

READ_WORDS = ("look", "fetch", "fill", "take")
PATH_WORDS = {
    "drop store": ["drop", "store"],
    "drop store drop": ["drop", "store", "drop"],
    "store": ["store"],
    "store drop": ["store", "drop"],
    "store set": ["store", "set"],
}


class Model:
    def __init__(self, design, world, run):
        self.path, self.guard, self.flight = design
        self.source, self.evictions, self.stops = world
        self.run = list(run)
        self.words = PATH_WORDS[self.path]
        self.caches, self.marks, self.leaders = [None], [0], {}
        for at in range(len(self.run)):
            cache, mark = self.next_cache(at), self.next_mark(at)
            self.caches.append(cache)
            self.marks.append(max(mark, self.mark_of_cache(at, cache)))

    def mark_of_cache(self, at, cache):
        """The version that the cache came to hold by the event at a place, else 0."""
        came = self.run[at][0] in ("fill", "set") and self.let_in(at)
        return cache if came and self.guard == "mark" else 0

    def database_before(self, at):
        return sum(1 for event in self.run[:at] if event[0] == "store")

    def replica_before(self, at):
        return sum(1 for event in self.run[:at] if event[0] == "copy")

    def next_cache(self, at):
        word = self.run[at][0]
        if word in ("drop", "evict"):
            return None
        if word in ("fill", "set") and self.let_in(at):
            return self.version(self.run[at][1], at)
        return self.caches[at]

    def next_mark(self, at):
        event = self.run[at]
        if event[0] == "evict" or self.guard != "mark":
            return 0
        if event[0] == "drop":
            return max(self.marks[at], self.version(event[1], at) or 0)
        return self.marks[at]

    def let_in(self, at):
        """Whether the fill or set at a place changes the cache."""
        word, number = self.run[at]
        version, cache = self.version(number, at), self.caches[at]
        if self.guard == "newer":
            return cache is None or version > cache
        if self.guard == "mark":
            return not version < self.marks[at]
        if word == "set" or self.guard == "always":
            return True
        if self.guard == "empty":
            return cache is None
        looked = self.run.index(("look", number))
        return not [event for event in self.run[looked:at] if event[0] in ("drop", "set")]

    def places(self, number, before):
        """The places of the steps of an operation, without a stop."""
        return [at for at in range(before)
                if len(self.run[at]) == 2 and self.run[at][1] == number and self.run[at][0] != "stop"]

    def many(self, before):
        return len({event[1] for event in self.run[:before] if len(event) == 2})

    def kind(self, number):
        return "read" if ("look", number) in self.run else "write"

    def version(self, number, before):
        for at in reversed(self.places(number, before)):
            word = self.run[at][0]
            if word == "store":
                return self.database_before(at + 1)
            if word == "fetch":
                return self.replica_before(at) if self.source == "replica" else self.database_before(at)
            if word == "take":
                return self.version(self.awaited(number), at)
            if word == "look" and self.caches[at] is not None:
                return self.caches[at]
        return None

    def flies(self, number, before):
        """Whether a read has opened a flight that is still open."""
        if self.flight != "shared" or not self.places(number, before) or self.kind(number) == "write":
            return False
        looked = self.run.index(("look", number))
        return self.caches[looked] is None and self.awaited(number) is None and not self.ended(number, before)

    def awaited(self, number):
        """The number of the read that a read waits for or has waited for, None if there is none."""
        # Kept, because each answer asks for those of all reads before it.
        if number not in self.leaders:
            self.leaders[number] = self.find_leader(number)
        return self.leaders[number]

    def find_leader(self, number):
        looked = self.run.index(("look", number))
        if self.caches[looked] is not None:
            return None
        found = [other for other in range(number) if self.flies(other, looked)]
        assert len(found) < 2
        return found[0] if found else None

    def ended(self, number, before):
        done = [self.run[at][0] for at in self.places(number, before)]
        if self.kind(number) == "write":
            return done == self.words
        if not done:
            return False
        if self.caches[self.run.index(("look", number))] is not None:
            return True
        return done[-1] in ("fill", "take") or (self.guard == "never" and done[-1] == "fetch")

    def stage(self, number):
        before = len(self.run)
        if ("stop", number) in self.run:
            return "stopped"
        if self.ended(number, before):
            return "ended"
        done = self.places(number, before)
        if self.kind(number) == "write":
            return self.words[len(done)]
        if self.awaited(number) is not None:
            return "waits"
        return ("fetch", "fill")[len(done) - 1]

    def operations(self):
        before = len(self.run)
        return tuple((self.kind(number), self.stage(number), self.version(number, before))
                     for number in range(self.many(before)))

    def state(self):
        before = len(self.run)
        replica = self.replica_before(before)
        return (self.database_before(before), replica, self.caches[-1], self.marks[-1])

    def can_follow(self):
        before = len(self.run)
        events = {("look", self.many(before)), (self.words[0], self.many(before))}
        if self.source == "replica" and self.replica_before(before) < self.database_before(before):
            events.add(("copy",))
        if self.evictions == "evicts" and (self.caches[-1], self.marks[-1]) != (None, 0):
            events.add(("evict",))
        for number in range(self.many(before)):
            events |= self.events_of(number)
        return tuple(sorted(events))

    def events_of(self, number):
        stage = self.stage(number)
        if stage in ("ended", "stopped"):
            return set()
        events = {("stop", number)} if self.stops == "stops" else set()
        if stage != "waits":
            events.add((stage, number))
        elif self.ended(self.awaited(number), len(self.run)):
            events.add(("take", number))
        return events


def walk(design, world, seed, length):
    """Return a run of a length, in which events of operations that have begun come more often than others."""
    run = ()
    while len(run) < length:
        events = Model(design, world, run).can_follow()
        seed = (seed * 1103515245 + 12345) % 2 ** 31
        number = seed >> 8
        begun = [event for event in events if event[0] in ("fetch", "fill", "take", "set", "drop", "copy", "store")]
        choice = begun if begun and number % 4 else events
        run += (choice[(number >> 4) % len(choice)],)
    return run
