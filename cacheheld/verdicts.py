"""When each promise holds, of however many events and operations (points 9 and 12)."""

from cacheheld.designs import check_design, check_world
from cacheheld.promises import PROMISES, check_question


def holds(design, world, promise):
    """Return whether no run breaks a promise."""
    check_question(design, world, promise)
    is_kept = HOLDS[promise]
    return is_kept(design, world)


def profile(design, world):
    """Return the ascending tuple of the promises that hold."""
    check_design(design)
    check_world(world)
    return tuple([promise for promise in PROMISES if holds(design, world, promise)])


def passes_by(design):
    """Return whether nothing ever puts a version into the cache."""
    path, guard, _ = design
    return guard == "never" and path != "store set"


def climbs(design, world):
    """Return whether what the cache holds never becomes older."""
    path, guard, _ = design
    return path == "store set" and guard in ("mark", "newer") and keeps(world)


def guards(design, world):
    """Return whether a write ends by emptying the cache, and reads that began before it cannot fill it any more."""
    path, guard, _ = design
    return path.endswith("drop") and (guard == "token" or (guard == "mark" and keeps(world)))


def is_alone(design):
    """Return whether reads share no flights."""
    return design[2] == "alone"


def is_primary(world):
    """Return whether reads fetch from the database itself."""
    return world[0] == "primary"


def keeps(world):
    """Return whether there are no evictions."""
    return world[1] == "keeps"


def finishes(world):
    """Return whether no operation stops halfway."""
    return world[2] == "finishes"


def holds_ending(design, world):
    """Return whether no read waits for a read that has stopped."""
    return is_alone(design) or finishes(world)


def holds_filled(design, world):
    """Return whether a read at rest always ends and leaves the cache with what it returns."""
    path, guard, _ = design
    if guard == "mark" and path.endswith("drop") and not is_primary(world):
        return False
    return guard != "never" and (is_alone(design) or finishes(world))


def holds_forward(design, world):
    """Return whether no read returns an older version than a read before it."""
    path, guard, _ = design
    if passes_by(design) or (not is_alone(design) and path != "store set"):
        return True
    return keeps(world) and (guard == "mark" or (guard == "newer" and path in ("store", "store set")))


def holds_fresh(design, world):
    """Return whether no read returns an older version than a write before it."""
    if climbs(design, world):
        return True
    return is_primary(world) and (passes_by(design) or (is_alone(design) and guards(design, world)))


def holds_linear(design, world):
    """Return whether the operations always have an order."""
    return holds_forward(design, world) and holds_fresh(design, world)


def holds_mended(design, world):
    """Return whether a write at rest never leaves the cache behind."""
    path, guard, _ = design
    return path != "store" or guard == "never"


def holds_moving(design, world):
    """Return whether each operation under way can always do a step."""
    return is_alone(design)


def holds_quiet(design, world):
    """Return whether no read returns an old version while no write is under way."""
    if passes_by(design):
        return is_primary(world)
    return finishes(world) and holds_fresh(design, world)


def holds_rest(design, world):
    """Return whether the cache is never behind at rest."""
    if passes_by(design):
        return True
    held = guards(design, world) and (is_primary(world) or design[1] != "token")
    return finishes(world) and (climbs(design, world) or held)


def holds_single(design, world):
    """Return whether two reads never fetch or fill side by side."""
    return not is_alone(design)


HOLDS = {
    "ending": holds_ending,
    "filled": holds_filled,
    "forward": holds_forward,
    "fresh": holds_fresh,
    "linear": holds_linear,
    "mended": holds_mended,
    "moving": holds_moving,
    "quiet": holds_quiet,
    "rest": holds_rest,
    "single": holds_single,
}
