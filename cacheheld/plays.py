"""Plays: what a run has led to, one event after the other (points 4 to 7)."""

from cacheheld.designs import write_steps


class Operation:
    """A read or a write that has begun; its steps are the words of those still to come.

    The first event of a run has place 1. "began" is the place of the first step, "left" that of the event by which
    the operation ended or stopped, None while it is under way.
    """

    def __init__(self, kind, steps, began):
        self.kind = kind
        self.steps = steps
        self.began = began
        self.left = None
        self.stopped = False
        self.version = None
        self.awaited = None
        self.wipes_seen = 0

    def has_ended(self):
        """Return whether the operation has done its last step."""
        return not self.steps

    def is_under_way(self):
        """Return whether the operation has neither ended nor stopped."""
        return not self.stopped and not self.has_ended()

    def had_ended_by(self, place):
        """Return whether the operation had done its last step before the event at a place."""
        return self.has_ended() and self.left < place

    def was_under_way_from(self, place):
        """Return whether the operation was under way at any time from a place to the end of the run."""
        return self.is_under_way() or self.left >= place

    def can_step(self):
        """Return whether the next step of the operation can come now."""
        return self.is_under_way() and (self.awaited is None or self.awaited.has_ended())

    def stage(self):
        """Return the word of the next step, "waits", "ended" or "stopped"."""
        if self.stopped:
            return "stopped"
        if self.has_ended():
            return "ended"
        if self.awaited is not None:
            return "waits"
        return self.steps[0]


class Play:
    """The versions and the operations of a design in a world, changed by one event after the other."""

    def __init__(self, design, world):
        self.design = design
        self.world = world
        self.path = write_steps(design)
        self.guard = design[1]
        self.flight = design[2]
        self.source = world[0]
        self.evictions = world[1]
        self.stops = world[2]
        self.database = 0
        self.replica = 0
        self.cache = None
        self.mark = 0
        self.operations = []
        self.past = []
        # The read that opened a flight last: its flight is open until it ends, also if it stops.
        self.leader = None
        # How often writes have dropped or set: "token" compares it with what a read saw when it looked.
        self.wipes = 0

    def can_come(self, value):
        """Return whether a value is an event that can come now."""
        # True and False are equal to 1 and 0, but are not integers here.
        if isinstance(value, tuple) and len(value) == 2 and isinstance(value[1], bool):
            return False
        return value in self.events()

    def events(self):
        """Return the ascending list of the events that can come now."""
        following = len(self.operations)
        found = [("look", following), (self.path[0], following)]
        if self.source == "replica" and self.replica < self.database:
            found.append(("copy",))
        if self.evictions == "evicts" and (self.cache is not None or self.mark != 0):
            found.append(("evict",))
        for number, operation in enumerate(self.operations):
            if operation.can_step():
                found.append((operation.steps[0], number))
            if self.stops == "stops" and operation.is_under_way():
                found.append(("stop", number))
        return sorted(found)

    def do(self, event):
        """Do an event that can come now."""
        self.past.append(event)
        word = event[0]
        if word == "copy":
            self.replica += 1
        elif word == "evict":
            self.cache = None
            self.mark = 0
        elif word == "stop":
            operation = self.operations[event[1]]
            operation.stopped = True
            operation.left = len(self.past)
        else:
            self.step(word, event[1])

    def step(self, word, number):
        """Do the next step of an operation, its first one if it has not begun."""
        if number == len(self.operations):
            self.operations.append(self.begun(word))
        operation = self.operations[number]
        operation.steps = operation.steps[1:]
        if word == "look":
            self.look(operation)
        elif word == "fetch":
            self.fetch(operation)
        elif word == "fill":
            self.fill(operation)
        elif word == "take":
            self.take(operation)
        elif word == "store":
            self.store(operation)
        elif word == "drop":
            self.drop(operation)
        else:
            self.put(operation)
        if operation.has_ended():
            operation.left = len(self.past)

    def begun(self, word):
        """Return a new operation whose first step has a word."""
        place = len(self.past)
        if word != "look":
            return Operation("write", self.path, place)
        if self.guard == "never":
            return Operation("read", ("look", "fetch"), place)
        return Operation("read", ("look", "fetch", "fill"), place)

    def carry_out(self, kind, number):
        """Let a read or write, which begins if it has not begun, do its steps until it can do none."""
        if number == len(self.operations):
            self.do(("look" if kind == "read" else self.path[0], number))
        operation = self.operations[number]
        while operation.can_step():
            self.do((operation.steps[0], number))

    def is_at_rest(self):
        """Return whether no operation is under way."""
        return not any([operation.is_under_way() for operation in self.operations])

    def rested(self):
        """Return a play that goes on from the same versions and flight, but has no operations yet."""
        play = Play(self.design, self.world)
        play.database = self.database
        play.replica = self.replica
        play.cache = self.cache
        play.mark = self.mark
        play.leader = self.leader
        return play

    def look(self, read):
        """Let a read end by a hit, or go on by itself, or wait for the read whose flight is open."""
        read.wipes_seen = self.wipes
        if self.cache is not None:
            read.version = self.cache
            read.steps = ()
        elif self.flight == "shared":
            self.share(read)

    def share(self, read):
        """Let a read open its flight, or wait for the read whose flight is open."""
        if self.leader is None or self.leader.has_ended():
            self.leader = read
        else:
            read.awaited = self.leader
            read.steps = ("take",)

    def fetch(self, read):
        """Let a read take the version of the database or of the replica."""
        if self.source == "replica":
            read.version = self.replica
        else:
            read.version = self.database

    def fill(self, read):
        """Let a read put what it took into the cache, if the guard lets it."""
        if self.lets_fill(read):
            self.hold(read.version)

    def take(self, read):
        """Let a waiting read return what the read returned that it waited for."""
        read.version = read.awaited.version

    def store(self, write):
        """Let a write make a new version in the database."""
        self.database += 1
        write.version = self.database

    def drop(self, write):
        """Let a write empty the cache."""
        self.cache = None
        self.wipes += 1
        if write.version is not None:
            self.raise_mark(write.version)

    def put(self, write):
        """Let a write do its step "set"."""
        self.wipes += 1
        if self.lets_in(write.version):
            self.hold(write.version)

    def lets_fill(self, read):
        """Return whether the guard lets a read fill the cache."""
        if self.guard == "empty":
            return self.cache is None
        if self.guard == "token":
            return read.wipes_seen == self.wipes
        return self.lets_in(read.version)

    def lets_in(self, version):
        """Return whether a guard that looks at versions lets one into the cache; others let in any."""
        if self.guard == "newer":
            return self.cache is None or self.cache < version
        if self.guard == "mark":
            return version >= self.mark
        return True

    def hold(self, version):
        """Let the cache hold a version."""
        self.cache = version
        self.raise_mark(version)

    def raise_mark(self, version):
        """Let the mark, where there is one, be at least a version."""
        if self.guard == "mark":
            self.mark = max(self.mark, version)
