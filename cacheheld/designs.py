"""Designs and worlds (points 2 and 3)."""

from cacheheld.errors import BadDesign, BadWorld

# Each of these is ascending: all_designs and all_worlds rely on it.
PATHS = ("drop store", "drop store drop", "store", "store drop", "store set")
GUARDS = ("always", "empty", "mark", "never", "newer", "token")
FLIGHTS = ("alone", "shared")
SOURCES = ("primary", "replica")
EVICTIONS = ("evicts", "keeps")
STOPS = ("finishes", "stops")


def is_design(value):
    """Return whether a value is a design."""
    return is_triple(value, PATHS, GUARDS, FLIGHTS)


def is_world(value):
    """Return whether a value is a world."""
    return is_triple(value, SOURCES, EVICTIONS, STOPS)


def is_triple(value, firsts, seconds, thirds):
    """Return whether a value is a tuple of one word of each of three tuples."""
    if not isinstance(value, tuple) or len(value) != 3:
        return False
    return value[0] in firsts and value[1] in seconds and value[2] in thirds


def all_designs():
    """Return the ascending tuple of all designs."""
    return all_triples(PATHS, GUARDS, FLIGHTS)


def all_worlds():
    """Return the ascending tuple of all worlds."""
    return all_triples(SOURCES, EVICTIONS, STOPS)


def all_triples(firsts, seconds, thirds):
    """Return the tuple of the triples of one word of each of three tuples, in their order."""
    return tuple([(one, two, three) for one in firsts for two in seconds for three in thirds])


def write_steps(design):
    """Return the tuple of the words of a design's path."""
    check_design(design)
    return tuple(design[0].split(" "))


def words_at(place):
    """Return the ascending tuple of the words that can stand at a place of a design, 0, 1 or 2."""
    return (PATHS, GUARDS, FLIGHTS)[place]


def check_design(value):
    """Raise BadDesign if a value is no design."""
    if not is_design(value):
        raise BadDesign("no design: a path, a guard and a flight are needed")


def check_world(value):
    """Raise BadWorld if a value is no world."""
    if not is_world(value):
        raise BadWorld("no world: a source, evictions and stops are needed")
