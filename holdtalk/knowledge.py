"""What is known: marks, the worlds that are seen by them, and the plain answer."""

from holdtalk.rows import all_within, some_within
from holdtalk.worlds import letter_holds


def agrees(world, marks):
    """Whether each letter that has a mark is in the world as it is marked."""
    return all([mark is None or mark == letter_holds(letter, world) for letter, mark in enumerate(marks)])


def seen_by(room, marks):
    """The worlds of the room that agree with all marks."""
    return [world for world in room if agrees(world, marks)]


def plain(seen, worlds):
    """The plain answer to a sentence that is true in just these worlds of the room."""
    if all_within(seen, worlds):
        return "grant"
    if some_within(seen, worlds):
        return "doubt"
    return "deny"
