"""What an asker can do: bring a talk to a goal, catch it, tell two talks apart.

None of this goes through rows of worlds one by one: with five letters there are too many.
"""

from holdtalk.footing import missed_side
from holdtalk.rows import in_any, in_both, in_first_only, some_within
from holdtalk.rules import answer
from holdtalk.talk import refuse_over
from holdtalk.worlds import sentence_of, worlds_of


def way_to(talk, goal, seen):
    """The shortest row of sentences that brings the talk to the goal, or why there is none; TalkOver, StrangeLetter."""
    refuse_over(talk)
    due = talk.ask(goal, seen)
    if due == "grant":
        return ("row", [goal])
    if talk.rule == "newer":
        return ("never", "fixed", due)
    inside = worlds_of(goal, talk.room())
    side = missed_side(talk.sides(), in_both(talk.held(), inside))
    if side is not None:
        return ("never", "side", side)
    # Whatever is granted or denied by what is seen leaves the held worlds that are seen.
    kept = in_first_only(in_both(talk.held(), seen), inside)
    if kept:
        return ("never", "kept", kept[0])
    # It is true in all seen worlds, and so granted; then the goal is true in all that is held.
    return ("row", [sentence_of(in_any([inside, seen]), talk.many), goal])


def catch_by(talk, seen):
    """The fewest sentences behind which the talk is caught, or None; TalkOver."""
    refuse_over(talk)
    if talk.caught():
        return []
    if talk.rule == "elder":
        return None
    rows = [catching_parts(side, in_both(side, talk.held()), seen) for side in talk.sides()]
    rows = [parts for parts in rows if parts]
    if not rows:
        return None
    return [sentence_of(in_first_only(talk.room(), part), talk.many) for part in min(rows, key=len)]


def catching_parts(side, held, seen):
    """The fewest parts in which the held worlds of a side can be taken away, one by each answer, or none.

    No answer takes away a world that is seen, and none a whole side, as the newer rule goes by the base.
    """
    if some_within(held, seen):
        return []
    if len(held) < len(side):
        return [held]
    if len(side) > 1:
        return [held[:1], held[1:]]
    return []


def apart_by(one, other, seen):
    """A sentence to which unlike answers are due in the two talks, or None; TalkOver."""
    refuse_over(one)
    refuse_over(other)
    for worlds in least_granted(one, seen) + least_granted(other, seen):
        due = answer(one.sides(), one.going(), seen, worlds)
        if due != answer(other.sides(), other.going(), seen, worlds):
            return sentence_of(worlds, one.many)
    return None


def least_granted(talk, seen):
    """Rows of worlds, such that a sentence is granted where it is true in all worlds of one of them, and else not.

    Denied is what has a contrary that is granted: so talks that grant alike answer alike.
    """
    going = talk.going()
    rows = [seen]
    for side in talk.sides():
        rows = [in_any([row, [world]]) for row in rows for world in in_both(side, going)]
    return [going] + rows
