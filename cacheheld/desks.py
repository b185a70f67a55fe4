"""Desks: runs that are made line by line (point 16)."""

from cacheheld.checks import check_text
from cacheheld.designs import check_design, check_world
from cacheheld.errors import InvalidText, NothingToUndo, NotNow
from cacheheld.plays import Play
from cacheheld.promises import broken_by
from cacheheld.runs import MOST_EVENTS, played
from cacheheld.texts import events_by_text

# The words of the events that have a number, of any design in any world.
NUMBERED_WORDS = ("look", "fetch", "fill", "take", "store", "drop", "set", "stop")


class Desk:
    """A run of a design in a world that lines change and ask about."""

    def __init__(self, design, world):
        check_design(design)
        check_world(world)
        self._play = Play(design, world)
        self._broken = broken_by(self._play)

    @property
    def done(self):
        """The tuple of the events done."""
        return tuple(self._play.past)

    @property
    def broken(self):
        """The ascending tuple of the promises that the run breaks."""
        return self._broken

    def run(self, line):
        """Do the event that a line names and return None, or return the answer that it asks for."""
        check_text(line)
        if line == "events":
            return "; ".join(list(events_by_text(self._play)))
        if line == "cache":
            return "nothing" if self._play.cache is None else str(self._play.cache)
        if line == "database":
            return str(self._play.database)
        if line == "broken":
            return " ".join(self._broken) if self._broken else "none"
        self._do(line)
        return None

    def undo(self):
        """Take back the last event."""
        events = self.done
        if not events:
            raise NothingToUndo("no event has been done")
        self._keep(played(self._play.design, self._play.world, events[:-1]))

    def _do(self, line):
        """Do the event that a line names."""
        if not is_event_text(line):
            raise InvalidText(1)
        events = events_by_text(self._play)
        if len(self._play.past) == MOST_EVENTS or line not in events:
            raise NotNow("this event cannot come now")
        self._play.do(events[line])
        self._keep(self._play)

    def _keep(self, play):
        """Keep a play, and the promises that its run breaks."""
        # Worked out here because that lets new operations go on in a copy: to read a property must do nothing.
        self._play = play
        self._broken = broken_by(play)


def is_event_text(line):
    """Return whether a line is the text of an event, of whatever design in whatever world."""
    word, _, figures = line.partition(" ")
    if word in NUMBERED_WORDS:
        return figures in [str(number) for number in range(100)]
    return line in ("copy", "evict")
