"""Worlds: what is true in one, rooms, and sentences for rows of worlds.

Nothing here calls itself: a sentence that was read may be deeper than calls should be nested.
"""

from holdtalk.errors import NoWorld, StrangeLetter
from holdtalk.sentences import letters, parts_of

# Sentences of the first letter alone: they are strange nowhere.
ALWAYS = ("or", ("let", 0), ("not", ("let", 0)))
NEVER = ("and", ("let", 0), ("not", ("let", 0)))


def letter_holds(letter, world):
    """Whether the letter is true in the world."""
    return ((world >> letter) & 1) == 1


def joined(kind, one, other):
    """Whether a sentence of the kind is true, when its two parts are so."""
    if kind == "and":
        return one and other
    if kind == "or":
        return one or other
    if kind == "if":
        return not one or other
    return one == other


def steps_of(sentence):
    """The sentence and all within it, each behind its parts, the first part ahead of the second."""
    steps = []
    waiting = [sentence]
    while waiting:
        step = waiting.pop()
        steps.append(step)
        waiting.extend(parts_of([step]))
    steps.reverse()
    return steps


def true_by(steps, world):
    """Whether the sentence of these steps is true in the world."""
    # The truths of the parts whose sentence has not come yet.
    truths = []
    for step in steps:
        if step[0] == "let":
            truths.append(letter_holds(step[1], world))
        elif step[0] == "not":
            truths.append(not truths.pop())
        else:
            other = truths.pop()
            one = truths.pop()
            truths.append(joined(step[0], one, other))
    return truths[0]


def true_in(sentence, world):
    """Whether the sentence is true in the world."""
    return true_by(steps_of(sentence), world)


def worlds_of(sentence, room):
    """The worlds of a rising row in which the sentence is true."""
    steps = steps_of(sentence)
    return [world for world in room if true_by(steps, world)]


def all_worlds(many):
    """All worlds of so many letters."""
    return list(range(1 << many))


def refuse_strange(sentence, many):
    """StrangeLetter where the sentence has a letter whose number is not below `many`."""
    if letters(sentence)[-1] >= many:
        raise StrangeLetter("a letter is not one of those there are")


def room_of(many, standing):
    """The worlds in which all standing sentences are true; StrangeLetter, else NoWorld where there is none."""
    for sentence in standing:
        refuse_strange(sentence, many)
    room = all_worlds(many)
    for sentence in standing:
        room = worlds_of(sentence, room)
    if not room:
        raise NoWorld("the standing sentences leave no world")
    return room


def sentence_of(worlds, many):
    """A sentence that is true in just these of the worlds of so many letters."""
    parts = [ALWAYS if world in worlds else NEVER for world in all_worlds(many)]
    # Neighbours differ in one letter alone, the first at first: each turn says that letter, and leaves half the parts.
    for letter in range(many):
        parts = [by_letter(letter, parts[at], parts[at + 1]) for at in range(0, len(parts), 2)]
    return parts[0]


def by_letter(letter, without, within):
    """A sentence that is true as `within` where the letter is true, and as `without` where it is not."""
    if without == within:
        return within
    if without == NEVER:
        return both(("let", letter), within)
    if within == NEVER:
        return both(("not", ("let", letter)), without)
    if without == ALWAYS:
        return ("if", ("let", letter), within)
    if within == ALWAYS:
        return ("or", ("let", letter), without)
    return ("and", ("if", ("let", letter), within), ("or", ("let", letter), without))


def both(one, other):
    """A sentence that is true where both are, as short as may be."""
    if other == ALWAYS:
        return one
    return ("and", one, other)
