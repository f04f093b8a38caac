"""Papers: why an answer is due, and which answers catch a talk.

Places lead to a row of worlds where each world of the room outside of it is lacked by one of them;
a place is needed where it is the only one that lacks such a world.
"""

from holdtalk.footing import missed_side
from holdtalk.rows import all_within, in_both, in_first_only
from holdtalk.rules import barring_side, left_by
from holdtalk.talk import refuse_over
from holdtalk.worlds import refuse_strange, worlds_of


def worlds_left(room, row):
    """The worlds of the room that each answer of a row of answers leaves."""
    return [left_by(word, room, worlds_of(sentence, room)) for sentence, word in row]


def open_places(talk):
    """The worlds of each place that a paper of the talk may name, from place 0 on."""
    if talk.rule == "newer":
        return [talk.base()]
    return [talk.base()] + worlds_left(talk.room(), talk.entries())


def common_behind(rows, room):
    """For each row, and for the end, the worlds of the room that all rows from there on have."""
    commons = [room]
    for row in reversed(rows):
        commons.append(in_both(commons[-1], row))
    commons.reverse()
    return commons


def needed_rows(rows, room, target):
    """The numbers of some rows that lead to the target, none of them needless, where all rows together lead there."""
    behind = common_behind(rows, room)
    needed = []
    common = room
    for at, row in enumerate(rows):
        if not all_within(in_both(common, behind[at + 1]), target):
            needed.append(at)
            common = in_both(common, row)
    return needed


def rows_lead(rows, room, target):
    """Whether the rows lead to the target, none of them being needless."""
    lacking = [[at for at, row in enumerate(rows) if world not in row] for world in in_first_only(room, target)]
    alone = [lacks[0] for lacks in lacking if len(lacks) == 1]
    return [] not in lacking and len(set(alone)) == len(rows)


def places_hold(places, rows, room, target):
    """Whether the places rise, each has one of the rows, and they lead to the target, none of them being needless."""
    if places != sorted(set(places)) or not all([place in range(len(rows)) for place in places]):
        return False
    return rows_lead([rows[place] for place in places], room, target)


def worlds_paper(talk, seen, inside, one, other):
    """The paper of two worlds that the talk goes by, the sentence being true in the one and not in the other."""
    side = barring_side(talk.sides(), talk.going(), seen, inside)
    if side is None:
        return ("free", one, other)
    return ("barred", one, other, side)


def paper_of(talk, sentence, seen):
    """A paper of the answer that is due; TalkOver, StrangeLetter."""
    refuse_over(talk)
    refuse_strange(sentence, talk.many)
    room = talk.room()
    inside = worlds_of(sentence, room)
    going_inside = in_both(talk.going(), inside)
    going_outside = in_first_only(talk.going(), inside)
    if not going_outside:
        return ("follows", needed_rows(open_places(talk), room, inside))
    if not going_inside:
        return ("contrary", needed_rows(open_places(talk), room, in_first_only(room, inside)))
    return worlds_paper(talk, seen, inside, going_inside[0], going_outside[0])


def paper_holds(talk, sentence, seen, paper):
    """Whether the paper holds; TalkOver, StrangeLetter."""
    refuse_over(talk)
    refuse_strange(sentence, talk.many)
    room = talk.room()
    inside = worlds_of(sentence, room)
    if paper[0] == "follows":
        return places_hold(paper[1], open_places(talk), room, inside)
    if paper[0] == "contrary":
        return places_hold(paper[1], open_places(talk), room, in_first_only(room, inside))
    one, other = paper[1:3]
    if one not in in_both(talk.going(), inside) or other not in in_first_only(talk.going(), inside):
        return False
    return paper == worlds_paper(talk, seen, inside, one, other)


def clash_by(room, sides, row):
    """A side, and places of the row of answers, from 1 on, that leave nothing of it; None where the row leaves some."""
    left = worlds_left(room, row)
    side = missed_side(sides, common_behind(left, room)[0])
    if side is None:
        return None
    needed = needed_rows(left, room, in_first_only(room, sides[side]))
    return (side, [at + 1 for at in needed])


def clash_of(talk):
    """A clash of the talk, or None where it is not caught."""
    return clash_by(talk.room(), talk.sides(), talk.entries())
