"""Answers that somebody else gave: where a row of them is wrong, and where it falls with a footing."""

from holdtalk.errors import BadWord
from holdtalk.footing import base_of, sides_of, stands
from holdtalk.papers import clash_by
from holdtalk.rules import left_by
from holdtalk.talk import refuse_over
from holdtalk.worlds import refuse_strange, worlds_of


def refuse_row(row, many):
    """StrangeLetter or BadWord by the first pair of the row of answers that has a strange sentence or no answer."""
    for sentence, word in row:
        refuse_strange(sentence, many)
        if word not in ("grant", "deny", "doubt"):
            raise BadWord("an answer is grant, deny or doubt")


def judged(talk, seen, row):
    """The first place of a wrong answer, with the answer due, or None; TalkOver, StrangeLetter, BadWord."""
    refuse_over(talk)
    refuse_row(row, talk.many)
    trial = talk.fork()
    for at, (sentence, word) in enumerate(row):
        due = trial.say(sentence, seen)
        if due != word:
            return (at, due)
    return None


def checked_sides(many, room, kind, sentence, row):
    """The sides of a footing; refuses what is wrong with it, else what is wrong with the row of answers beside it."""
    refuse_strange(sentence, many)
    sides = sides_of(room, kind, sentence)
    refuse_row(row, many)
    return sides


def falls(many, room, kind, sentence, row):
    """How many answers the row falls after, and a clash of these, or None; StrangeLetter, BadWord, NoStanding."""
    sides = checked_sides(many, room, kind, sentence, row)
    held = base_of(sides)
    for at, (said, word) in enumerate(row):
        held = left_by(word, held, worlds_of(said, room))
        if not stands(sides, held):
            side, places = clash_by(room, sides, row[:at + 1])
            return (at + 1, side, places)
    return None
