"""The ten promises, and which runs break them (point 8)."""

from cacheheld.designs import check_design, check_world
from cacheheld.errors import BadPromise, BadPromises
from cacheheld.plays import Play
from cacheheld.runs import played

# Ascending: promises relies on it.
PROMISES = ("ending", "filled", "forward", "fresh", "linear", "mended", "moving", "quiet", "rest", "single")


def promises():
    """Return the ascending tuple of the names of the promises."""
    return PROMISES


def breaks(design, world, promise, run):
    """Return whether a run breaks a promise."""
    check_question(design, world, promise)
    is_broken = BREAKS[promise]
    return is_broken(played(design, world, run))


def first_break(design, world, promise, run):
    """Return the number of events of the shortest beginning of a run that breaks a promise, None if none does."""
    check_question(design, world, promise)
    # What is no run as a whole has no beginnings to look at, however early one of them would break the promise.
    played(design, world, run)
    is_broken = BREAKS[promise]
    play = Play(design, world)
    for event in run:
        if is_broken(play):
            return len(play.past)
        play.do(event)
    return len(play.past) if is_broken(play) else None


def check_question(design, world, promise):
    """Raise the error for the first that is invalid of a design, a world and a promise."""
    check_design(design)
    check_world(world)
    check_promise(promise)


def check_promise(value):
    """Raise BadPromise if a value is not the name of a promise."""
    if value not in PROMISES:
        raise BadPromise("no promise: one of the ten names is needed")


def check_promises(value):
    """Raise BadPromises if a value is no ascending tuple of different promises."""
    if not isinstance(value, tuple) or value != tuple([promise for promise in PROMISES if promise in value]):
        raise BadPromises("no ascending tuple of different promises")


def broken_by(play):
    """Return the ascending tuple of the promises that the run of a play breaks."""
    found = []
    for promise in PROMISES:
        is_broken = BREAKS[promise]
        if is_broken(play):
            found.append(promise)
    return tuple(found)


def breaks_ending(play):
    """Return whether a read waits for a read that has stopped."""
    return any([one.is_under_way() and one.awaited is not None and one.awaited.stopped for one in play.operations])


def breaks_filled(play):
    """Return whether a new read would, alone, never end or leave the cache without what it returns."""
    if not play.is_at_rest():
        return False
    later = play.rested()
    later.carry_out("read", 0)
    read = later.operations[0]
    return not read.has_ended() or later.cache != read.version


def breaks_forward(play):
    """Return whether the last event ended a read that is older than a read before it."""
    return returns_older(play, "read")


def breaks_fresh(play):
    """Return whether the last event ended a read that is older than a write before it."""
    return returns_older(play, "write")


def returns_older(play, kind):
    """Return whether the last event ended a read older than an operation of a kind that had ended before it began."""
    read = last_read(play)
    if read is None:
        return False
    earlier = [one for one in play.operations if one.kind == kind and one.had_ended_by(read.began)]
    return any([read.version < one.version for one in earlier])


def last_read(play):
    """Return the read that the last event ended, None if it ended none."""
    for one in play.operations:
        if one.kind == "read" and one.has_ended() and one.left == len(play.past):
            return one
    return None


def breaks_linear(play):
    """Return whether the operations have no order in which each read returns the version last written before it."""
    # What returns or writes the same version stands side by side in such an order, the write first; version 0 stands
    # before all. So an order is barred just if, for two versions, something of each ended before something of the
    # other one began: a longer circle of versions, each barred from standing after the next, contains such a pair.
    ends, beginnings = spans(play)
    return any([ends[one] < beginnings[other] and ends[other] < beginnings[one]
                for one in ends for other in ends if one < other])


def spans(play):
    """Return two dicts: where the first operation of a version ended, and where the last one of it began."""
    endless = len(play.past) + 1
    ends = {0: 0}
    beginnings = {0: 0}
    for one in play.operations:
        # A write that has stored but not ended counts also if no read returned its version: it can stand last.
        if one.has_ended() or (one.kind == "write" and one.version is not None):
            end = one.left if one.has_ended() else endless
            ends[one.version] = min(end, ends.get(one.version, endless))
            beginnings[one.version] = max(one.began, beginnings.get(one.version, 0))
    return ends, beginnings


def breaks_mended(play):
    """Return whether a new write would, alone, leave the cache with an older version than the database's."""
    if not play.is_at_rest():
        return False
    later = play.rested()
    later.carry_out("write", 0)
    return is_behind(later)


def is_behind(play):
    """Return whether the cache holds an older version than the database's."""
    return play.cache is not None and play.cache < play.database


def breaks_moving(play):
    """Return whether an operation is under way that cannot do a step."""
    return any([one.is_under_way() and not one.can_step() for one in play.operations])


def breaks_quiet(play):
    """Return whether the last event ended a read that is older than the database, with no write in its time."""
    read = last_read(play)
    if read is None or read.version >= play.database:
        return False
    return not any([one.kind == "write" and one.was_under_way_from(read.began) for one in play.operations])


def breaks_rest(play):
    """Return whether no operation is under way and the cache is behind the database."""
    return play.is_at_rest() and is_behind(play)


def breaks_single(play):
    """Return whether two reads are under way that both are about to fetch or fill."""
    busy = [one for one in play.operations if one.is_under_way() and one.steps[0] in ("fetch", "fill")]
    return len(busy) > 1


BREAKS = {
    "ending": breaks_ending,
    "filled": breaks_filled,
    "forward": breaks_forward,
    "fresh": breaks_fresh,
    "linear": breaks_linear,
    "mended": breaks_mended,
    "moving": breaks_moving,
    "quiet": breaks_quiet,
    "rest": breaks_rest,
    "single": breaks_single,
}
