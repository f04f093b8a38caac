"""Sentences: how deep they are, their letters, how they are shown and read.

Nothing here calls itself: a text that is read may be deeper than calls should be nested.
"""

from holdtalk.errors import NoSentence

LETTERS = "abcde"
JOINTS = {"and": "&", "or": "|", "if": ">", "same": "="}
KINDS = {"&": "and", "|": "or", ">": "if", "=": "same"}
BEGINNINGS = "abcde-("

# What a sentence is while only its first sign was read; the parts that come are put behind.
BEGUN_NOT = ("not",)
BEGUN_BRACKET = ("(",)


def parts_of(layer):
    """The sentences that stand straight within those of the list."""
    return [part for sentence in layer if sentence[0] != "let" for part in sentence[1:]]


def depth(sentence):
    """How deep the sentence is; a letter is nought deep."""
    deep = 0
    layer = parts_of([sentence])
    while layer:
        deep += 1
        layer = parts_of(layer)
    return deep


def letters(sentence):
    """The numbers of the sentence's letters, rising, each once."""
    found = set()
    layer = [sentence]
    while layer:
        for part in layer:
            if part[0] == "let":
                found.add(part[1])
        layer = parts_of(layer)
    return sorted(found)


def shown(sentence):
    """The sentence's shown form."""
    signs = []
    # Sentences and signs still to be shown, the next one last.
    waiting = [sentence]
    while waiting:
        part = waiting.pop()
        if isinstance(part, str):
            signs.append(part)
        elif part[0] == "let":
            signs.append(LETTERS[part[1]])
        elif part[0] == "not":
            waiting.extend([part[1], "-"])
        else:
            waiting.extend([")", part[2], JOINTS[part[0]], part[1], "("])
    return "".join(signs)


def read(text):
    """The sentence that the text shows, blanks left aside; NoSentence where it shows none."""
    begun = []
    whole = None
    for at, sign in enumerate(text):
        if sign == " ":
            continue
        if not can_stand(sign, begun, whole):
            raise NoSentence(at)
        whole = read_on(sign, begun, whole)
    if whole is None or begun:
        raise NoSentence(len(text))
    return whole


def can_stand(sign, begun, whole):
    """Whether a text that can be read may go on with the sign.

    `begun` are the sentences that are not whole yet, the outermost first;
    `whole` is the part that just became whole, or None where one has to begin.
    """
    if whole is None:
        return sign in BEGINNINGS
    if not begun:
        return False
    if begun[-1] == BEGUN_BRACKET:
        return sign in KINDS
    return sign == ")"


def read_on(sign, begun, whole):
    """Take a sign that can stand: change `begun`, and tell the part that is whole now, or None."""
    if sign == "-":
        begun.append(BEGUN_NOT)
        return None
    if sign == "(":
        begun.append(BEGUN_BRACKET)
        return None
    if sign in KINDS:
        begun[-1] = (KINDS[sign], whole)
        return None
    if sign == ")":
        part = begun.pop() + (whole,)
    else:
        part = ("let", LETTERS.index(sign))
    # No sign closes a not: it is whole as soon as the sentence within is.
    while begun and begun[-1] == BEGUN_NOT:
        part = begun.pop() + (part,)
    return part
