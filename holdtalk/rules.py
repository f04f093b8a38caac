"""The answer due to a sentence."""

from holdtalk.footing import missed_side
from holdtalk.knowledge import plain
from holdtalk.rows import all_within, in_both, in_first_only, some_within


def left_by(word, row, worlds):
    """The worlds of the row that an answer leaves, its sentence being true in just the worlds `worlds`."""
    if word == "grant":
        return in_both(row, worlds)
    if word == "deny":
        return in_first_only(row, worlds)
    return list(row)


def barring_side(sides, going, seen, worlds):
    """The number of the first side that bars the plain answer, or None where it is due.

    Asked only where the sentence is true in some worlds of `going`, and not in all: else nothing is barred.
    """
    word = plain(seen, worlds)
    if word == "doubt":
        return None
    return missed_side(sides, left_by(word, going, worlds))


def answer(sides, going, seen, worlds):
    """The answer due to a sentence that is true in just the worlds `worlds`, where the talk goes by `going`."""
    if all_within(going, worlds):
        return "grant"
    if not some_within(going, worlds):
        return "deny"
    if barring_side(sides, going, seen, worlds) is None:
        return plain(seen, worlds)
    return "doubt"
