"""Houses: a room, what is known, talks with names, and a log of what was done."""

from holdtalk.asker import catch_by, way_to
from holdtalk.errors import BadName, NameTaken, NoLetter, NoTalk, NoWorld
from holdtalk.knowledge import plain, seen_by
from holdtalk.lines import line_of, mark_word
from holdtalk.papers import clash_of, paper_of
from holdtalk.sentences import LETTERS, shown
from holdtalk.talk import Talk
from holdtalk.worlds import refuse_strange, room_of, worlds_of

NAME_SIGNS = "abcdefghijklmnopqrstuvwxyz"
LONGEST_NAME = 8


class House:
    """A house of so many letters, with standing sentences; StrangeLetter, NoWorld."""

    def __init__(self, many, standing):
        self.space = room_of(many, standing)
        self.many = many
        self.marks = [None] * many
        self.talks = {}
        self.lines = []
        self.write(["house", str(many)] + [shown(sentence) for sentence in standing])

    def room(self):
        """The worlds of the room."""
        return list(self.space)

    def seen(self):
        """The worlds of the room that agree with all marks."""
        return seen_by(self.space, self.marks)

    def known(self, letter):
        """The letter's mark; NoLetter."""
        self.refuse_letter(letter)
        return self.marks[letter]

    def learn(self, letter, mark):
        """Put the mark in the place of the letter's; NoLetter, NoWorld."""
        self.refuse_letter(letter)
        marks = list(self.marks)
        marks[letter] = mark
        if not seen_by(self.space, marks):
            raise NoWorld("no world would be seen")
        self.marks = marks
        self.write(["learn", LETTERS[letter], mark_word(mark)])

    def plainly(self, sentence):
        """The plain answer; StrangeLetter."""
        refuse_strange(sentence, self.many)
        return plain(self.seen(), worlds_of(sentence, self.space))

    def begin(self, name, kind, sentence, rule):
        """Begin a talk; BadName, NameTaken, StrangeLetter, BadWord, NoStanding."""
        self.refuse_new_name(name)
        self.talks[name] = Talk(self.many, self.space, kind, sentence, rule)
        self.write(["begin", name, rule, kind, shown(sentence)])

    def fork(self, name, other):
        """Fork a talk under a new name; NoTalk, BadName, NameTaken."""
        talk = self.talk_of(name)
        self.refuse_new_name(other)
        self.talks[other] = talk.fork()
        self.write(["fork", name, other])

    def drop(self, name):
        """Let a talk go; NoTalk."""
        self.refuse_no_talk(name)
        self.talks.pop(name)
        self.write(["drop", name])

    def names(self):
        """The names of all talks, in the order in which they were begun or forked."""
        return list(self.talks)

    def say(self, name, sentence):
        """The answer due in a talk, which is given; NoTalk, TalkOver, StrangeLetter."""
        word = self.talk_of(name).say(sentence, self.seen())
        self.write(["say", name, shown(sentence), word])
        return word

    def ask(self, name, sentence):
        """The answer due in a talk, or the plain one where it was ended; NoTalk, StrangeLetter."""
        return self.talk_of(name).ask(sentence, self.seen())

    def back(self, name):
        """Take the last answer of a talk back, and tell it with its sentence; NoTalk, TalkOver, NothingSaid."""
        pair = self.talk_of(name).back()
        self.write(["back", name])
        return pair

    def end(self, name):
        """End a talk; NoTalk, TalkOver."""
        self.talk_of(name).end()
        self.write(["end", name])

    def entries(self, name):
        """The sentences that were said in a talk, each with its answer; NoTalk."""
        return self.talk_of(name).entries()

    def held(self, name):
        """The held worlds of a talk; NoTalk."""
        return self.talk_of(name).held()

    def caught(self, name):
        """Whether a talk is caught; NoTalk."""
        return self.talk_of(name).caught()

    def over(self, name):
        """Whether a talk was ended; NoTalk."""
        return self.talk_of(name).over()

    def why(self, name, sentence):
        """A paper of the answer that is due in a talk; NoTalk, TalkOver, StrangeLetter."""
        return paper_of(self.talk_of(name), sentence, self.seen())

    def clash(self, name):
        """A clash of a talk, or None where it is not caught; NoTalk."""
        return clash_of(self.talk_of(name))

    def bring(self, name, goal):
        """A way to bring a talk to a goal, or why there is none; NoTalk, TalkOver, StrangeLetter."""
        return way_to(self.talk_of(name), goal, self.seen())

    def catch(self, name):
        """The fewest sentences that catch a talk, or None; NoTalk, TalkOver."""
        return catch_by(self.talk_of(name), self.seen())

    def log(self):
        """The lines of what was done."""
        return list(self.lines)

    def last_line(self):
        """The line of what was done last."""
        return self.lines[-1]

    def write(self, words):
        """Put a line of these words into the log."""
        self.lines.append(line_of(words))

    def talk_of(self, name):
        """The talk of this name; NoTalk."""
        self.refuse_no_talk(name)
        return self.talks[name]

    def refuse_no_talk(self, name):
        """NoTalk where no talk has the name."""
        if name not in self.talks:
            raise NoTalk("no talk has this name")

    def refuse_new_name(self, name):
        """BadName, else NameTaken, where no new talk can have the name."""
        if not 1 <= len(name) <= LONGEST_NAME or not all([sign in NAME_SIGNS for sign in name]):
            raise BadName("a name has one to eight small letters")
        if name in self.talks:
            raise NameTaken("a talk has this name already")

    def refuse_letter(self, letter):
        """NoLetter where the number is no letter of the house."""
        if letter not in range(self.many):
            raise NoLetter("the house has no such letter")
