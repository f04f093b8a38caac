"""What several tests need: sentences and rows of worlds to try, and slow readers and reckoners to compare with."""

import itertools
import random

from holdtalk.errors import (BadName, BadWord, NameTaken, NoLetter, NoStanding, NoTalk, NothingSaid, NoWorld,
                             StrangeLetter, TalkError, TalkOver)
from holdtalk.papers import clash_of
from holdtalk.talk import Talk

SIGN_OF = {"and": "&", "or": "|", "if": ">", "same": "="}
KIND_OF = {"&": "and", "|": "or", ">": "if", "=": "same"}
JOINED = ("and", "or", "if", "same")
SIGNS = "abcde-(&|>=) "
LETTER = [("let", k) for k in range(5)]
NEVER_TRUE = ("and", LETTER[0], ("not", LETTER[0]))
ALWAYS_TRUE = ("or", LETTER[0], ("not", LETTER[0]))
EITHER = ("or", LETTER[0], LETTER[1])
POWERS = (1, 2, 4, 8, 16)
KINDS = ("true", "false", "doubt")
RULES = ("elder", "newer")
ANSWERS = ("grant", "deny", "doubt")
CONTRARY = {"grant": "deny", "deny": "grant", "doubt": "doubt"}


def left_chain(deep):
    """A sentence so deep, the deeper part on the left, of all kinds in turn."""
    sentence = LETTER[0]
    kinds = ("not",) + JOINED
    for k in range(deep):
        kind = kinds[k % 5]
        sentence = (kind, sentence) if kind == "not" else (kind, sentence, LETTER[k % 5])
    return sentence


def right_chain(deep):
    """A sentence so deep, the deeper part on the right, of the four joints in turn."""
    sentence = LETTER[4]
    for k in range(deep):
        sentence = (JOINED[k % 4], LETTER[k % 5], sentence)
    return sentence


def not_chain(deep):
    sentence = LETTER[3]
    for k in range(deep):
        sentence = ("not", sentence)
    return sentence


def tuple_count(sentence):
    if sentence[0] == "let":
        return 1
    return 1 + sum(tuple_count(part) for part in sentence[1:])


def wide_sentence(tuples):
    """A sentence of just so many tuples, no deeper than it has to be (one deeper at most)."""
    if tuples % 2 == 0:
        return ("not", wide_sentence(tuples - 1))
    row = [LETTER[k % 5] for k in range((tuples + 1) // 2)]
    turn = 0
    while len(row) > 1:
        pairs = [(JOINED[(turn + k) % 4], row[k], row[k + 1]) for k in range(0, len(row) - 1, 2)]
        row = pairs + (row[-1:] if len(row) % 2 else [])
        turn += 1
    return row[0]


def grown(chance, deep, letters=5):
    """A sentence by chance, at most so deep, of so many letters."""
    if deep == 0 or chance.random() < 0.2:
        return LETTER[chance.randrange(letters)]
    kind = chance.choice(("not",) + JOINED)
    if kind == "not":
        return (kind, grown(chance, deep - 1, letters))
    return (kind, grown(chance, deep - 1, letters), grown(chance, deep - 1, letters))


def some_sentences(seed, many, deepest):
    """Sentences by chance, alike in each run."""
    chance = random.Random(seed)
    return [grown(chance, chance.randrange(deepest + 1)) for k in range(many)]


def short_forms(longest):
    """All shown forms of at most so many signs, each with its sentence."""
    of_length = {1: [("abcde"[k], LETTER[k]) for k in range(5)]}
    for length in range(2, longest + 1):
        rows = [("-" + text, ("not", s)) for text, s in of_length[length - 1]]
        for ahead in range(1, length - 3):
            for (text, s), (behind, t) in itertools.product(of_length[ahead], of_length[length - 3 - ahead]):
                rows += [("(" + text + SIGN_OF[kind] + behind + ")", (kind, s, t)) for kind in JOINED]
        of_length[length] = rows
    return dict(itertools.chain.from_iterable(of_length.values()))


def short_beginnings(longest):
    """All beginnings of at most so many signs of shown forms, with `a` for any letter and `&` for any joint.

    Each bracket takes at most three more signs (a joint, a letter, the closing one) and the
    innermost sentence one: so no beginning needs a form of more than 4 * longest + 1 signs.
    """
    of_length = {1: ["a"]}
    for length in range(2, 4 * longest + 2):
        of_length[length] = ["-" + text for text in of_length[length - 1]]
        for ahead in range(1, length - 3):
            pairs = itertools.product(of_length[ahead], of_length[length - 3 - ahead])
            of_length[length] += ["(" + text + "&" + behind + ")" for text, behind in pairs]
    firsts = {text[:longest] for texts in of_length.values() for text in texts}
    return {text[:size] for text in firsts for size in range(len(text) + 1)}


def plain_signs(text):
    """The text without blanks, with `a` for any letter and `&` for any joint."""
    text = text.replace(" ", "")
    for sign in "bcde":
        text = text.replace(sign, "a")
    for sign in "|>=":
        text = text.replace(sign, "&")
    return text


def slow_shown(sentence):
    """The shown form, by a def that calls itself."""
    kind, *parts = sentence
    if kind == "let":
        return "abcde"[parts[0]]
    if kind == "not":
        return "-" + slow_shown(parts[0])
    return "(" + slow_shown(parts[0]) + SIGN_OF[kind] + slow_shown(parts[1]) + ")"


def slow_letters(sentence):
    """The letters of a sentence, a set."""
    if sentence[0] == "let":
        return {sentence[1]}
    return set().union(*[slow_letters(part) for part in sentence[1:]])


def slow_true(sentence, world):
    """Whether the sentence is true in the world, by a reckoner that calls itself."""
    kind, *parts = sentence
    if kind == "let":
        return world // POWERS[parts[0]] % 2 == 1
    truths = tuple(slow_true(part, world) for part in parts)
    if kind == "not":
        return truths == (False,)
    return truths in {"and": [(True, True)],
                      "or": [(True, True), (True, False), (False, True)],
                      "if": [(True, True), (False, True), (False, False)],
                      "same": [(True, True), (False, False)]}[kind]


def rows_within(worlds):
    """All rows of these worlds that rise, the empty one too, where the worlds rise."""
    return [list(row) for size in range(len(worlds) + 1) for row in itertools.combinations(worlds, size)]


def some_rows(seed, many, worlds):
    """So many rows of these worlds by chance, alike in each run, of few worlds and of many."""
    chance = random.Random(seed)
    return [sorted(chance.sample(worlds, chance.randrange(len(worlds) + 1))) for k in range(many)]


def minterms(worlds, many):
    """A sentence that is true in just these of the worlds of so many letters, world by world."""
    row = [("and", LETTER[0], ("not", LETTER[0]))]
    for world in worlds:
        part = ("or", LETTER[0], ("not", LETTER[0]))
        for k in range(many):
            part = ("and", part, LETTER[k] if world // POWERS[k] % 2 else ("not", LETTER[k]))
        row.append(part)
    while len(row) > 1:
        row = [("or", *row[k:k + 2]) if len(row[k:k + 2]) == 2 else row[k] for k in range(0, len(row), 2)]
    return row[0]


def refusal_of(deed, *things):
    """The class of the refusal that the deed raises, or None where it raises none."""
    try:
        deed(*things)
    except TalkError as refusal:
        return refusal.__class__
    return None


def slow_sides(room, kind, sentence):
    """The sides of a footing, as a list of sets."""
    inside = {world for world in room if slow_true(sentence, world)}
    return {"true": [inside], "false": [set(room) - inside], "doubt": [inside, set(room) - inside]}[kind]


def slow_plain(seen, worlds):
    if set(seen) <= set(worlds):
        return "grant"
    return "doubt" if set(seen) & set(worlds) else "deny"


def slow_answer(sides, going, seen, worlds):
    """The words of the document, one after the other, over sets of worlds."""
    going, seen, worlds = set(going), set(seen), set(worlds)
    if going <= worlds:
        return "grant"
    if not going & worlds:
        return "deny"
    if seen <= worlds:
        return "grant" if all(going & worlds & set(side) for side in sides) else "doubt"
    if not seen & worlds:
        return "deny" if all((going - worlds) & set(side) for side in sides) else "doubt"
    return "doubt"


class SlowTalk:
    """A talk that keeps nothing but its answers, over sets of worlds, and reckons all else anew."""

    def __init__(self, room, kind, sentence, rule):
        self.room, self.rule = set(room), rule
        self.sides = slow_sides(room, kind, sentence)
        self.base = set().union(*self.sides)
        self.entries = []
        self.insides = []

    def inside(self, sentence):
        return {world for world in self.room if slow_true(sentence, world)}

    def place(self, k):
        """The worlds of a place."""
        if k == 0:
            return self.base
        inside = self.insides[k - 1]
        return {"grant": inside, "deny": self.room - inside, "doubt": self.room}[self.entries[k - 1][1]]

    def held(self):
        return set.intersection(*[self.place(k) for k in range(len(self.entries) + 1)])

    def going(self):
        return self.held() if self.rule == "elder" else self.base

    def caught(self):
        return not all(side & self.held() for side in self.sides)

    def ask(self, sentence, seen):
        return slow_answer(self.sides, self.going(), seen, self.inside(sentence))

    def say(self, sentence, seen):
        self.give(sentence, self.ask(sentence, seen))
        return self.entries[-1][1]

    def give(self, sentence, word):
        """Keep an answer, whether it is due or not."""
        self.entries.append((sentence, word))
        self.insides.append(self.inside(sentence))

    def lead(self, places, target):
        """Whether the places lead to the row of worlds, and none, and no several, of them can be left out."""
        def common(some):
            return self.room.intersection(*[self.place(k) for k in some])

        less = [some for size in range(len(places)) for some in itertools.combinations(places, size)]
        return common(places) <= target and not any(common(some) <= target for some in less)

    def clash_holds(self, clash):
        """Whether a pair of a side and places is a clash of the talk."""
        side, places = clash
        return (side in range(len(self.sides)) and places == sorted(set(places))
                and all(1 <= k <= len(self.entries) for k in places)
                and self.lead(places, self.room - self.sides[side]))


def footings_by_chance(seed, many):
    """So many rooms with footings that stand: (letters, room, kind, sentence), alike in each run."""
    chance = random.Random(seed)
    told = []
    while len(told) < many:
        letters = chance.choice((1, 2, 2, 3, 3, 3, 4, 5))
        worlds = range(2 ** letters)
        room = sorted(chance.sample(worlds, chance.randrange(1, len(worlds) + 1)))
        if chance.random() < 0.3:
            room = list(worlds)
        inside = sorted(chance.sample(room, chance.randrange(len(room) + 1)))
        kind = chance.choice(KINDS)
        sentence = minterms(inside, letters)
        if all(slow_sides(room, kind, sentence)):
            told.append((letters, room, kind, sentence))
    return told


def row_by_chance(chance, room, most=None):
    """A row of worlds of the room that isn't empty."""
    return sorted(chance.sample(room, chance.randrange(1, min(most or len(room), len(room)) + 1)))


def sentence_by_chance(chance, letters):
    """A sentence of so many letters that is true in worlds by chance; with many letters in easier ones."""
    if letters > 3:
        return grown(chance, 4, letters)
    worlds = range(2 ** letters)
    return minterms(sorted(chance.sample(worlds, chance.randrange(len(worlds) + 1))), letters)


def looks_of(talk):
    """All that can be looked at in a talk, as it is now: no list in it is one that the talk told."""
    rows = (talk.room(), talk.base(), talk.held(), talk.going(), talk.entries(), *talk.sides())
    room, base, held, going, entries, *sides = [list(row) for row in rows]
    return {"fields": (talk.many, talk.kind, talk.sentence, talk.rule), "room": room, "base": base, "held": held,
            "going": going, "sides": sides, "entries": entries, "caught": talk.caught(), "over": talk.over()}


def slow_seen(room, marks):
    """The worlds of the room that agree with all marks."""
    return [world for world in room
            if all(mark is None or mark == (world // power % 2 == 1) for mark, power in zip(marks, POWERS))]


class TwinHouse:
    """What a house should be: talks by themselves in a dict, marks, and a log, with the refusals due in their order."""

    def __init__(self, many, standing):
        self.many, self.marks, self.talks = many, [None] * many, {}
        self.room = [world for world in range(2 ** many) if all(slow_true(each, world) for each in standing)]
        self.log = [" ".join(["house", str(many), *[slow_shown(each) for each in standing]])]

    def seen(self):
        return slow_seen(self.room, self.marks)

    def strange(self, sentence):
        return max(slow_letters(sentence)) >= self.many

    def name_refusal(self, name):
        if not 1 <= len(name) <= 8 or not all(97 <= ord(sign) <= 122 for sign in name):
            return BadName
        return NameTaken if name in self.talks else None

    def refusal(self, word, *things):
        """The refusal that is due to a deed, or None."""
        if word == "learn":
            letter, mark = things
            if not 0 <= letter < self.many:
                return NoLetter
            return None if slow_seen(self.room, self.marks[:letter] + [mark] + self.marks[letter + 1:]) else NoWorld
        if word == "begin":
            return self.name_refusal(things[0]) or self.footing_refusal(*things[1:])
        if things[0] not in self.talks:
            return NoTalk
        if word == "fork":
            return self.name_refusal(things[1])
        if word == "drop":
            return None
        if self.talks[things[0]].over():
            return TalkOver
        if word == "say" and self.strange(things[1]):
            return StrangeLetter
        return NothingSaid if word == "back" and not self.talks[things[0]].entries() else None

    def footing_refusal(self, kind, sentence, rule):
        if self.strange(sentence):
            return StrangeLetter
        if kind not in KINDS or rule not in RULES:
            return BadWord
        return None if all(slow_sides(self.room, kind, sentence)) else NoStanding

    def do(self, word, *things):
        """Do a deed that is not refused, and tell what it tells."""
        if word == "learn":
            self.marks[things[0]] = things[1]
            words, told = ["abcde"[things[0]], {True: "yes", False: "no", None: "unknown"}[things[1]]], None
        elif word == "begin":
            name, kind, sentence, rule = things
            self.talks[name] = Talk(self.many, self.room, kind, sentence, rule)
            words, told = [name, rule, kind, slow_shown(sentence)], None
        elif word == "say":
            told = self.talks[things[0]].say(things[1], self.seen())
            words = [things[0], slow_shown(things[1]), told]
        elif word in ("back", "end"):
            words, told = [things[0]], getattr(self.talks[things[0]], word)()
        elif word == "drop":
            words, told = [things[0]], self.talks.pop(things[0]) and None
        else:
            self.talks[things[1]] = self.talks[things[0]].fork()
            words, told = list(things), None
        self.log.append(" ".join([word, *words]))
        return told

    def looks(self):
        """All that can be looked at, as looks_of_house tells it."""
        talks = [(name, talk.entries(), talk.held(), talk.caught(), talk.over(), clash_of(talk),
                  [talk.ask(letter, self.seen()) for letter in LETTER[:self.many]])
                 for name, talk in self.talks.items()]
        return {"room": self.room, "seen": self.seen(), "marks": list(self.marks), "log": list(self.log),
                "talks": talks}


def looks_of_house(house, many):
    """All that can be looked at in a house of so many letters."""
    talks = [(name, house.entries(name), house.held(name), house.caught(name), house.over(name), house.clash(name),
              [house.ask(name, letter) for letter in LETTER[:many]]) for name in house.names()]
    return {"room": house.room(), "seen": house.seen(), "marks": [house.known(k) for k in range(many)],
            "log": house.log(), "talks": talks}


def standing_by_chance(chance):
    """A number of letters, and standing sentences that leave a world."""
    many = chance.choice((1, 2, 2, 3, 3, 4, 5))
    while True:
        standing = [grown(chance, 3, many) for k in range(chance.choice((0, 0, 1, 2, 3)))]
        if any(all(slow_true(each, world) for each in standing) for world in range(2 ** many)):
            return many, standing


def deed_by_chance(chance, many, wrong=0.1):
    """A deed of a house: its word and what is handed in, wrong at times."""
    def name():
        names = ("", "A", "a b", "abcdefghi") if chance.random() < wrong else ("a", "bo", "cyd", "abcdefgh")
        return chance.choice(names)

    def sentence():
        return grown(chance, chance.randrange(4), 5 if chance.random() < wrong else many)

    word = chance.choice(("learn", "begin", "say", "say") * 2 + ("back", "fork", "end", "drop"))
    if word == "learn":
        letter = chance.randrange(-1, 6) if chance.random() < wrong else chance.randrange(many)
        return (word, letter, chance.choice((True, False, None)))
    if word == "begin":
        kinds, rules = (("elder", ""), ("true", "")) if chance.random() < wrong else (KINDS, RULES)
        return (word, name(), chance.choice(kinds), sentence(), chance.choice(rules))
    if word == "say":
        return (word, name(), sentence())
    if word == "fork":
        return (word, name(), name())
    return (word, name())


class Stuck(Exception):
    """A slow reader can't go on."""


def slow_read(text):
    """A reader that calls itself: ("read", sentence) or ("refused", place)."""
    places = [at for at in range(len(text)) if text[at] != " "]
    bare = [text[at] for at in places]
    places.append(len(text))

    def sign_at(k, allowed):
        if k == len(bare) or bare[k] not in allowed:
            raise Stuck(k)
        return bare[k]

    def sentence_at(k):
        sign = sign_at(k, list("abcde-("))
        if sign == "-":
            within, k = sentence_at(k + 1)
            return ("not", within), k
        if sign == "(":
            one, k = sentence_at(k + 1)
            kind = KIND_OF[sign_at(k, list("&|>="))]
            other, k = sentence_at(k + 1)
            sign_at(k, [")"])
            return (kind, one, other), k + 1
        return ("let", "abcde".index(sign)), k + 1

    try:
        sentence, k = sentence_at(0)
        if k < len(bare):
            raise Stuck(k)
    except Stuck as stuck:
        return ("refused", places[stuck.args[0]])
    return ("read", sentence)
