"""Runs: their events, and what they lead to (points 4 to 7)."""

from cacheheld.designs import check_design, check_world
from cacheheld.errors import BadRun
from cacheheld.plays import Play

MOST_EVENTS = 60


def is_run(design, world, value):
    """Return whether a value is a run of at most 60 events."""
    try:
        played(design, world, value)
    except BadRun:
        return False
    return True


def can_follow(design, world, run):
    """Return the ascending tuple of the events that can come after a run."""
    return tuple(played(design, world, run).events())


def state(design, world, run):
    """Return the versions (database, replica, cache, mark) after a run."""
    play = played(design, world, run)
    return play.database, play.replica, play.cache, play.mark


def operations(design, world, run):
    """Return the tuple of the triples (kind, stage, version) of the operations after a run."""
    play = played(design, world, run)
    return tuple([(one.kind, one.stage(), one.version) for one in play.operations])


def played(design, world, run):
    """Return the play that a run has led to; raise the error for the first invalid argument."""
    check_design(design)
    check_world(world)
    if not isinstance(run, tuple) or len(run) > MOST_EVENTS:
        raise BadRun(None)
    play = Play(design, world)
    for index, event in enumerate(run):
        if not play.can_come(event):
            raise BadRun(index)
        play.do(event)
    return play
