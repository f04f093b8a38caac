"""The book of a house: its log, read back."""

from holdtalk.errors import NoBook, TalkError
from holdtalk.house import House
from holdtalk.lines import mark_of, words_of
from holdtalk.sentences import LETTERS, read

FIGURES = ("1", "2", "3", "4", "5")


def learn_again(house, words):
    """Do the deed of a line `learn LETTER yes`, `no` or `unknown`."""
    house.learn(LETTERS.find(words[1]), mark_of(words[2]))


def begin_again(house, words):
    """Do the deed of a line `begin NAME RULE KIND SENTENCE`."""
    house.begin(words[1], words[3], read(words[4]), words[2])


def say_again(house, words):
    """Do the deed of a line `say NAME SENTENCE ANSWER`."""
    house.say(words[1], read(words[2]))


def back_again(house, words):
    """Do the deed of a line `back NAME`."""
    house.back(words[1])


def end_again(house, words):
    """Do the deed of a line `end NAME`."""
    house.end(words[1])


def drop_again(house, words):
    """Do the deed of a line `drop NAME`."""
    house.drop(words[1])


def fork_again(house, words):
    """Do the deed of a line `fork NAME NEWNAME`."""
    house.fork(words[1], words[2])


DEEDS = {"learn": learn_again, "begin": begin_again, "say": say_again, "back": back_again, "end": end_again,
         "drop": drop_again, "fork": fork_again}
# How many words the line of each deed has.
SIZES = {"learn": 3, "begin": 5, "say": 4, "back": 2, "end": 2, "drop": 2, "fork": 3}


def read_house(lines):
    """The house that has these lines as its log; NoBook."""
    if not lines:
        raise NoBook(0)
    house = house_by(lines[0])
    if house is None:
        raise NoBook(0)
    for at, line in enumerate(lines[1:], start=1):
        if not done_again(house, line):
            raise NoBook(at)
    return house


def house_by(line):
    """The new house whose log is the line alone, or None where there is none."""
    words = words_of(line)
    if len(words) < 2 or words[1] not in FIGURES:
        return None
    try:
        house = House(int(words[1]), [read(word) for word in words[2:]])
    except TalkError:
        return None
    return house if house.last_line() == line else None


def done_again(house, line):
    """Do the deed of the line; whether it could be done, and the house wrote just this line for it.

    So whatever else is wrong with the words shows in the line: an answer that is not due, a sentence that is not
    in its shown form, a word that stands for nothing.
    """
    words = words_of(line)
    if SIZES.get(words[0]) != len(words):
        return False
    deed = DEEDS[words[0]]
    try:
        deed(house, words)
    except TalkError:
        return False
    return house.last_line() == line
