"""Texts of designs, worlds and runs (point 15)."""

from cacheheld.checks import check_text
from cacheheld.designs import all_designs, all_worlds, check_design, check_world
from cacheheld.errors import InvalidText
from cacheheld.plays import Play
from cacheheld.runs import MOST_EVENTS, played


def write_design(design):
    """Return the text of a design."""
    check_design(design)
    return text_of_words(design)


def write_world(world):
    """Return the text of a world."""
    check_world(world)
    return text_of_words(world)


def read_design(text):
    """Return the design that has a text."""
    return read_words(text, all_designs())


def read_world(text):
    """Return the world that has a text."""
    return read_words(text, all_worlds())


def write_run(design, world, run):
    """Return the text of a run: a line for each event."""
    play = played(design, world, run)
    return "\n".join([text_of_event(event) for event in play.past])


def read_run(design, world, text):
    """Return the run that has a text."""
    check_design(design)
    check_world(world)
    check_text(text)
    play = Play(design, world)
    lines = text.split("\n") if text else []
    for number, line in enumerate(lines, start=1):
        events = events_by_text(play)
        if number > MOST_EVENTS or line not in events:
            raise InvalidText(number)
        play.do(events[line])
    return tuple(play.past)


def text_of_words(words):
    """Return the text of a design or of a world."""
    return ", ".join(words)


def read_words(text, choices):
    """Return the one of several designs or worlds that has a text."""
    check_text(text)
    for words in choices:
        if text_of_words(words) == text:
            return words
    raise InvalidText(1)


def text_of_event(event):
    """Return the text of an event."""
    return " ".join([str(part) for part in event])


def events_by_text(play):
    """Return a dict of the events that can come now, ascending, by their texts."""
    return {text_of_event(event): event for event in play.events()}
