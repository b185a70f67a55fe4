"""Short runs that break promises, and runs that leave the cache far behind (points 10 and 11)."""

from cacheheld.checks import check_number
from cacheheld.designs import check_design, check_world
from cacheheld.errors import NotBroken
from cacheheld.plays import Play
from cacheheld.promises import first_break
from cacheheld.verdicts import holds

MOST_BEHIND = 12

# A recipe is a run in which letters stand for numbers: reads a, b and c, writes v and w. "read" and "write" stand for
# all steps that an operation has left, and what cannot come is left out: so one recipe serves many designs in many
# worlds. None has more than 11 events with one write v.
RECIPES = {
    "ending": ("look a, stop a, look b",),
    "filled": ("look a, stop a", "write v"),
    "forward": (
        "store v, write w, look a, write v, look b",
        "look a, fetch a, drop v, store v, set v, copy, read b, evict, fill a, look c",
        "look a, fetch a, drop v, store v, copy, read b, write v, fill a, look c",
        "look a, fetch a, write v, copy, read b, drop w, fill a, look c",
        "drop v, look a, look b, fetch a, store v, copy, fetch b, fill b, fill a, look c",
        "drop v, look a, look b, fetch a, store v, copy, fetch b, fill a, fill b, look c",
    ),
    "fresh": (
        "drop v, read a, store v, stop v, look b",
        "look a, fetch a, write v, evict, fill a, look b",
        "look a, fetch a, write v, look b, fill a, take b",
        "write v, read a",
        "store v, copy, read a, write w, write v, look b",
    ),
    "mended": ("read a",),
    "moving": ("look a, look b",),
    "rest": (
        "drop v, read a, store v, stop v",
        "look a, fetch a, write v, evict, fill a",
        "write v, read a",
        "store w, store v, write v, write w",
    ),
    "single": ("look a, look b",),
}


def breaking_run(design, world, promise):
    """Return a run that breaks a promise, of at most 11 events, two writes and three reads."""
    if holds(design, world, promise):
        raise NotBroken("no run breaks a promise that holds")
    runs = [tuple(followed(design, world, recipe, 1).past) for recipe in recipes(promise)]
    lengths = [first_break(design, world, promise, run) for run in runs]
    broken = [run[:length] for run, length in zip(runs, lengths) if length is not None]
    return broken[0]


def behind(design, world, many):
    """Return a run after which, at rest, the cache is so many versions behind the database."""
    check_design(design)
    check_world(world)
    check_number(many, 1, MOST_BEHIND)
    if holds(design, world, "rest"):
        raise NotBroken("the cache is never behind at rest")
    plays = [followed(design, world, recipe, many) for recipe in recipes("rest")]
    found = [tuple(play.past) for play in plays if is_far_behind(play, many)]
    return found[0]


def recipes(promise):
    """Return the tuple of the recipes of which one breaks a promise, where it does not hold."""
    if promise == "linear":
        return RECIPES["fresh"] + RECIPES["forward"]
    if promise == "quiet":
        return RECIPES["fresh"]
    return RECIPES[promise]


def is_far_behind(play, many):
    """Return whether no operation is under way and the cache is so many versions behind the database."""
    return play.is_at_rest() and play.cache is not None and play.cache + many == play.database


def followed(design, world, recipe, many):
    """Return the play after a recipe; so many writes do, one after the other, what it says of write v."""
    play = Play(design, world)
    numbers = {}
    for part in recipe.split(", "):
        word, _, letter = part.partition(" ")
        for index in range(many if letter == "v" else 1):
            follow(play, numbers, word, (letter, index))
    return play


def follow(play, numbers, word, name):
    """Let a play do what a word says of the operation that has a name; one that begins has the next number."""
    number = numbers.get(name, len(play.operations))
    event = (word,) if word in ("copy", "evict") else (word, number)
    if word in ("read", "write"):
        play.carry_out(word, number)
    elif play.can_come(event):
        play.do(event)
    if number < len(play.operations):
        numbers[name] = number
