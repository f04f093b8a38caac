"""Talks: a footing, a rule, and the answers that were given."""

from holdtalk.errors import BadWord, NothingSaid, TalkOver
from holdtalk.footing import base_of, sides_of, stands
from holdtalk.knowledge import plain
from holdtalk.rules import answer, left_by
from holdtalk.worlds import refuse_strange, worlds_of


class Talk:
    """A talk in a room; StrangeLetter, BadWord or NoStanding where its footing or its rule can't be."""

    def __init__(self, many, room, kind, sentence, rule):
        refuse_strange(sentence, many)
        # A bad rule goes ahead of a side that is empty, so it is asked ahead of the sides.
        if rule not in ("elder", "newer"):
            raise BadWord("a rule is elder or newer")
        self.many = many
        self.kind = kind
        self.sentence = sentence
        self.rule = rule
        self.space = list(room)
        self.parts = sides_of(room, kind, sentence)
        self.given = []
        # The held worlds ahead of all answers, and behind each one: none of these rows is changed, so forks share them.
        self.left = [base_of(self.parts)]
        self.ended = False

    def room(self):
        """The worlds of the room."""
        return list(self.space)

    def base(self):
        """All worlds of all sides."""
        return list(self.left[0])

    def held(self):
        """The worlds of the base that all answers leave."""
        return list(self.left[-1])

    def going(self):
        """The worlds that the talk goes by."""
        if self.rule == "elder":
            return self.held()
        return self.base()

    def sides(self):
        """The sides of the footing."""
        return [list(side) for side in self.parts]

    def entries(self):
        """The sentences that were said, each with its answer, in order."""
        return list(self.given)

    def caught(self):
        """Whether the held worlds don't stand."""
        return not stands(self.parts, self.left[-1])

    def over(self):
        """Whether the talk was ended."""
        return self.ended

    def ask(self, sentence, seen):
        """The answer due, or the plain one where the talk was ended; StrangeLetter."""
        refuse_strange(sentence, self.many)
        worlds = worlds_of(sentence, self.space)
        if self.ended:
            return plain(seen, worlds)
        return answer(self.parts, self.going(), seen, worlds)

    def say(self, sentence, seen):
        """The answer due, which is given; TalkOver, StrangeLetter."""
        refuse_over(self)
        word = self.ask(sentence, seen)
        self.given.append((sentence, word))
        self.left.append(left_by(word, self.left[-1], worlds_of(sentence, self.space)))
        return word

    def back(self):
        """Take the last answer back, and tell it with its sentence; TalkOver, NothingSaid."""
        refuse_over(self)
        if not self.given:
            raise NothingSaid("the talk has no answer")
        self.left.pop()
        return self.given.pop()

    def fork(self):
        """Another talk that stands as this one does."""
        other = Talk(self.many, self.space, self.kind, self.sentence, self.rule)
        other.given = list(self.given)
        other.left = list(self.left)
        other.ended = self.ended
        return other

    def end(self):
        """End the talk; TalkOver."""
        refuse_over(self)
        self.ended = True


def refuse_over(talk):
    """TalkOver where the talk was ended."""
    if talk.over():
        raise TalkOver("the talk was ended")
