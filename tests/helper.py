"""What several tests need: sentences and rows of worlds to try, and slow readers and reckoners to compare with."""

import itertools
import random

SIGN_OF = {"and": "&", "or": "|", "if": ">", "same": "="}
KIND_OF = {"&": "and", "|": "or", ">": "if", "=": "same"}
JOINED = ("and", "or", "if", "same")
SIGNS = "abcde-(&|>=) "
LETTER = [("let", k) for k in range(5)]
POWERS = (1, 2, 4, 8, 16)


def left_chain(deep):
    """A sentence so deep, the deeper part on the left, of all kinds in turn."""
    sentence = LETTER[0]
    kinds = ("not",) + JOINED
    for k in range(deep):
        kind = kinds[k % 5]
        sentence = (kind, sentence) if kind == "not" else (kind, sentence, LETTER[k % 5])
    return sentence


def right_chain(deep):
    """A sentence so deep, the deeper part on the right, of the four joints in turn."""
    sentence = LETTER[4]
    for k in range(deep):
        sentence = (JOINED[k % 4], LETTER[k % 5], sentence)
    return sentence


def not_chain(deep):
    sentence = LETTER[3]
    for k in range(deep):
        sentence = ("not", sentence)
    return sentence


def tuple_count(sentence):
    if sentence[0] == "let":
        return 1
    return 1 + sum(tuple_count(part) for part in sentence[1:])


def wide_sentence(tuples):
    """A sentence of just so many tuples, no deeper than it has to be (one deeper at most)."""
    if tuples % 2 == 0:
        return ("not", wide_sentence(tuples - 1))
    row = [LETTER[k % 5] for k in range((tuples + 1) // 2)]
    turn = 0
    while len(row) > 1:
        pairs = [(JOINED[(turn + k) % 4], row[k], row[k + 1]) for k in range(0, len(row) - 1, 2)]
        row = pairs + (row[-1:] if len(row) % 2 else [])
        turn += 1
    return row[0]


def some_sentences(seed, many, deepest):
    """Sentences by chance, alike in each run."""
    chance = random.Random(seed)

    def one(deep):
        if deep == 0 or chance.random() < 0.2:
            return LETTER[chance.randrange(5)]
        kind = chance.choice(("not",) + JOINED)
        if kind == "not":
            return (kind, one(deep - 1))
        return (kind, one(deep - 1), one(deep - 1))

    return [one(chance.randrange(deepest + 1)) for k in range(many)]


def short_forms(longest):
    """All shown forms of at most so many signs, each with its sentence."""
    of_length = {1: [("abcde"[k], LETTER[k]) for k in range(5)]}
    for length in range(2, longest + 1):
        rows = [("-" + text, ("not", s)) for text, s in of_length[length - 1]]
        for ahead in range(1, length - 3):
            for (text, s), (behind, t) in itertools.product(of_length[ahead], of_length[length - 3 - ahead]):
                rows += [("(" + text + SIGN_OF[kind] + behind + ")", (kind, s, t)) for kind in JOINED]
        of_length[length] = rows
    return dict(itertools.chain.from_iterable(of_length.values()))


def short_beginnings(longest):
    """All beginnings of at most so many signs of shown forms, with `a` for any letter and `&` for any joint.

    Each bracket takes at most three more signs (a joint, a letter, the closing one) and the
    innermost sentence one: so no beginning needs a form of more than 4 * longest + 1 signs.
    """
    of_length = {1: ["a"]}
    for length in range(2, 4 * longest + 2):
        of_length[length] = ["-" + text for text in of_length[length - 1]]
        for ahead in range(1, length - 3):
            pairs = itertools.product(of_length[ahead], of_length[length - 3 - ahead])
            of_length[length] += ["(" + text + "&" + behind + ")" for text, behind in pairs]
    firsts = {text[:longest] for texts in of_length.values() for text in texts}
    return {text[:size] for text in firsts for size in range(len(text) + 1)}


def plain_signs(text):
    """The text without blanks, with `a` for any letter and `&` for any joint."""
    text = text.replace(" ", "")
    for sign in "bcde":
        text = text.replace(sign, "a")
    for sign in "|>=":
        text = text.replace(sign, "&")
    return text


def slow_true(sentence, world):
    """Whether the sentence is true in the world, by a reckoner that calls itself."""
    kind, *parts = sentence
    if kind == "let":
        return world // POWERS[parts[0]] % 2 == 1
    truths = tuple(slow_true(part, world) for part in parts)
    if kind == "not":
        return truths == (False,)
    return truths in {"and": [(True, True)],
                      "or": [(True, True), (True, False), (False, True)],
                      "if": [(True, True), (False, True), (False, False)],
                      "same": [(True, True), (False, False)]}[kind]


def rows_within(worlds):
    """All rows of these worlds that rise, the empty one too, where the worlds rise."""
    return [list(row) for size in range(len(worlds) + 1) for row in itertools.combinations(worlds, size)]


def some_rows(seed, many, worlds):
    """So many rows of these worlds by chance, alike in each run, of few worlds and of many."""
    chance = random.Random(seed)
    return [sorted(chance.sample(worlds, chance.randrange(len(worlds) + 1))) for k in range(many)]


class Stuck(Exception):
    """A slow reader can't go on."""


def slow_read(text):
    """A reader that calls itself: ("read", sentence) or ("refused", place)."""
    places = [at for at in range(len(text)) if text[at] != " "]
    bare = [text[at] for at in places]
    places.append(len(text))

    def sign_at(k, allowed):
        if k == len(bare) or bare[k] not in allowed:
            raise Stuck(k)
        return bare[k]

    def sentence_at(k):
        sign = sign_at(k, list("abcde-("))
        if sign == "-":
            within, k = sentence_at(k + 1)
            return ("not", within), k
        if sign == "(":
            one, k = sentence_at(k + 1)
            kind = KIND_OF[sign_at(k, list("&|>="))]
            other, k = sentence_at(k + 1)
            sign_at(k, [")"])
            return (kind, one, other), k + 1
        return ("let", "abcde".index(sign)), k + 1

    try:
        sentence, k = sentence_at(0)
        if k < len(bare):
            raise Stuck(k)
    except Stuck as stuck:
        return ("refused", places[stuck.args[0]])
    return ("read", sentence)
