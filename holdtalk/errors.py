"""The refusals of the program, one class for each."""


class TalkError(ValueError):
    """Any refusal."""


class NoSentence(TalkError):
    """A text can't be read as a sentence; `at` is the first place that is wrong in it, or its length."""

    def __init__(self, at):
        self.at = at


class StrangeLetter(TalkError):
    """A sentence has a letter whose number is not below the number of letters there are."""


class NoLetter(TalkError):
    """A number is no letter of the house."""


class NoWorld(TalkError):
    """No world would be left."""


class BadWord(TalkError):
    """A word is no kind of footing, no rule or no answer."""


class NoStanding(TalkError):
    """A side of the footing has no world."""


class TalkOver(TalkError):
    """The talk was ended."""


class NothingSaid(TalkError):
    """The talk has no answer that could be taken back."""


class BadName(TalkError):
    """A new name is not one to eight small letters."""


class NameTaken(TalkError):
    """A talk has the new name already."""


class NoTalk(TalkError):
    """No talk has the name."""


class NoBook(TalkError):
    """Lines are no house's log; `at` is the number of the first line that makes it so."""

    def __init__(self, at):
        self.at = at
