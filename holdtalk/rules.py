"""The answer due to a sentence."""

from holdtalk.footing import stands
from holdtalk.knowledge import plain
from holdtalk.rows import all_within, in_both, in_first_only, some_within


def left_by(word, row, worlds):
    """The worlds of the row that an answer leaves, its sentence being true in just the worlds `worlds`."""
    if word == "grant":
        return in_both(row, worlds)
    if word == "deny":
        return in_first_only(row, worlds)
    return list(row)


def answer(sides, going, seen, worlds):
    """The answer due to a sentence that is true in just the worlds `worlds`, where the talk goes by `going`."""
    if all_within(going, worlds):
        return "grant"
    if not some_within(going, worlds):
        return "deny"
    due = plain(seen, worlds)
    if stands(sides, left_by(due, going, worlds)):
        return due
    return "doubt"
