"""Footings: their sides, their base, and when a row of worlds stands."""

from holdtalk.errors import BadWord, NoStanding
from holdtalk.rows import in_any, in_first_only, some_within
from holdtalk.worlds import worlds_of


def sides_of(room, kind, sentence):
    """The sides of the footing in the room; BadWord, else NoStanding where a side is empty."""
    if kind not in ("true", "false", "doubt"):
        raise BadWord("a kind is true, false or doubt")
    inside = worlds_of(sentence, room)
    outside = in_first_only(room, inside)
    if kind == "true":
        sides = [inside]
    elif kind == "false":
        sides = [outside]
    else:
        sides = [inside, outside]
    if [] in sides:
        raise NoStanding("a side of the footing has no world")
    return sides


def base_of(sides):
    """All worlds of all sides."""
    return in_any(sides)


def missed_side(sides, worlds):
    """The number of the first side that has no world in the row, or None where each has one."""
    for at, side in enumerate(sides):
        if not some_within(side, worlds):
            return at
    return None


def stands(sides, worlds):
    """Whether each side has a world in the row."""
    return missed_side(sides, worlds) is None
