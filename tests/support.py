"""What several tests need: short ways to write runs, and values that are no designs, worlds or runs."""

from cacheheld.designs import all_designs, all_worlds

CALM = ("primary", "keeps", "finishes")
ROUGH = ("replica", "evicts", "stops")

# Values of every kind that callers may pass, none of them a design, a world, a run or an event.
ODD_VALUES = (
    None, True, False, 0, 1, -1, 10 ** 50, "", "look", "store drop, always, alone",
    [], {}, {"look": 0}, [()], ["look", 0], [("look", 0)], {("look", 0): [None]},
)


def run_of(text):
    """Return the run whose events stand in a text, separated by commas: "store 0, copy"."""
    return tuple(event_of(part) for part in text.split(",") if part.strip())


def event_of(text):
    """Return the event of a text such as "look 0" or "copy"."""
    word, *number = text.split()
    return (word, int(number[0])) if number else (word,)


def nested(depth):
    """Return a tuple that holds tuples, so many deep."""
    value = ()
    for _ in range(depth):
        value = (value,)
    return value


def everywhere():
    """Return the pairs of each design and each world."""
    return [(design, world) for design in all_designs() for world in all_worlds()]
