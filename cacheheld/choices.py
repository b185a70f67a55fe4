"""Choosing a design: which ones keep wanted promises, and with how few changes (points 12 to 14)."""

from cacheheld.checks import check_number
from cacheheld.designs import all_designs, all_worlds, check_design, check_world, words_at
from cacheheld.promises import check_promise, check_promises
from cacheheld.verdicts import holds, profile


def keepers(world, wanted):
    """Return the ascending tuple of the designs for which all wanted promises hold in a world."""
    check_world(world)
    check_promises(wanted)
    return tuple([design for design in all_designs() if keeps_all(design, world, wanted)])


def worlds_for(design, wanted):
    """Return the ascending tuple of the worlds in which all wanted promises hold for a design."""
    check_design(design)
    check_promises(wanted)
    return tuple([world for world in all_worlds() if keeps_all(design, world, wanted)])


def parting(wanted, promise):
    """Return the least pair (design, world) for which wanted promises hold and another one does not, else None."""
    check_promises(wanted)
    check_promise(promise)
    for design in all_designs():
        for world in all_worlds():
            if keeps_all(design, world, wanted) and not holds(design, world, promise):
                return design, world
    return None


def is_implied(wanted, promise):
    """Return whether a promise holds wherever all wanted promises hold."""
    return parting(wanted, promise) is None


def nearest(design, world, wanted):
    """Return the design that keeps all wanted promises in a world with the fewest changes, None if there is none."""
    check_design(design)
    # They are ascending: of several with the fewest changes min returns the least.
    return min(keepers(world, wanted), key=lambda other: changes(design, other), default=None)


def strongest(world):
    """Return the ascending tuple of the designs whose profile is not a proper part of another design's."""
    check_world(world)
    designs = all_designs()
    profiles = [profile(design, world) for design in designs]
    return tuple([design for design, kept in zip(designs, profiles)
                  if not any([is_proper_part(kept, other) for other in profiles])])


def harmless(design, world, place):
    """Return the ascending tuple of the words that can stand at a place so that no promise is lost."""
    check_design(design)
    check_world(world)
    check_number(place, 0, 2)
    kept = profile(design, world)
    return tuple([word for word in words_at(place) if keeps_all(changed(design, place, word), world, kept)])


def keeps_all(design, world, wanted):
    """Return whether all wanted promises hold for a design in a world."""
    for promise in wanted:
        if not holds(design, world, promise):
            return False
    return True


def changes(design, other):
    """Return at how many places two designs differ."""
    return len([one for one, another in zip(design, other) if one != another])


def is_proper_part(part, whole):
    """Return whether a tuple of promises is a part of another one, but not all of it."""
    return len(part) < len(whole) and all([promise in whole for promise in part])


def changed(design, place, word):
    """Return a design with another word at a place."""
    return design[:place] + (word,) + design[place + 1:]
