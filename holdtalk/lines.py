"""Lines of a log: words that are parted by one blank each."""

MARK_WORDS = {True: "yes", False: "no", None: "unknown"}
MARKS = {"yes": True, "no": False, "unknown": None}


def line_of(words):
    """The line of these words."""
    return " ".join(words)


def words_of(line):
    """The words of a line; an empty one where a blank parts none."""
    return line.split(" ")


def mark_word(mark):
    """The word for a mark."""
    return MARK_WORDS[mark]


def mark_of(word):
    """The mark that a word stands for; None too where it stands for none."""
    return MARKS.get(word)
