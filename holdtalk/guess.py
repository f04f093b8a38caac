"""Guesses: the rules and the marks by which a row of answers is the one that was due."""

from holdtalk.footing import base_of
from holdtalk.judge import checked_sides
from holdtalk.knowledge import seen_by
from holdtalk.rules import answer, left_by
from holdtalk.worlds import worlds_of


def guesses(many, room, kind, sentence, row):
    """All pairs of a rule and marks by which no answer of the row is wrong; StrangeLetter, BadWord, NoStanding."""
    sides = checked_sides(many, room, kind, sentence, row)
    # The worlds of each sentence are reckoned once, not for each guess anew.
    answers = [(worlds_of(said, room), word) for said, word in row]
    told = []
    for rule in ("elder", "newer"):
        for marks in all_marks(many):
            seen = seen_by(room, marks)
            if seen and all_due(rule, sides, seen, answers):
                told.append((rule, marks))
    return told


def all_marks(many):
    """All marks of so many letters, in the order of the first letter, then of the second, and so on."""
    rows = [[]]
    for letter in range(many):
        rows = [marks + [mark] for marks in rows for mark in (None, False, True)]
    return rows


def all_due(rule, sides, seen, answers):
    """Whether each answer is due in a new talk, where the sentence that it is given to is true in just these worlds."""
    base = base_of(sides)
    held = base
    for worlds, word in answers:
        going = held if rule == "elder" else base
        if answer(sides, going, seen, worlds) != word:
            return False
        held = left_by(word, held, worlds)
    return True
