import copy
import itertools
import random
import unittest

from holdtalk.errors import BadWord, NoStanding, StrangeLetter, TalkOver
from holdtalk.judge import falls, judged
from holdtalk.talk import Talk
from tests.helper import (ALWAYS_TRUE, ANSWERS, EITHER, KINDS, LETTER, NEVER_TRUE, RULES, SlowTalk, footings_by_chance,
                          left_chain, looks_of, minterms, refusal_of, row_by_chance, rows_within, sentence_by_chance,
                          slow_sides)

A, B, C, D, E = LETTER
ROOM = [0, 1, 2, 3]
NO_ANSWERS = ("", "true", "false", "elder", "newer", "yes", "granted", "Grant", " deny", "doubt ")


def slow_fall(room, kind, sentence, row):
    """How many answers a row falls after, and a slow talk with these answers."""
    slow = SlowTalk(room, kind, sentence, "newer")
    for at, (said, word) in enumerate(row):
        slow.give(said, word)
        if slow.caught():
            return at + 1, slow
    return None, slow


class Judged(unittest.TestCase):
    def test_no_wrong_answer(self):
        elder, newer = Talk(2, ROOM, "true", EITHER, "elder"), Talk(2, ROOM, "true", EITHER, "newer")
        self.assertIsNone(judged(elder, [0], [(A, "deny"), (B, "grant")]))
        self.assertIsNone(judged(newer, [0], [(A, "deny"), (B, "deny")]))

    def test_by_the_other_rule(self):
        elder, newer = Talk(2, ROOM, "true", EITHER, "elder"), Talk(2, ROOM, "true", EITHER, "newer")
        self.assertEqual(judged(elder, [0], [(A, "deny"), (B, "deny")]), (1, "grant"))
        self.assertEqual(judged(newer, [0], [(A, "deny"), (B, "grant")]), (1, "deny"))

    def test_the_empty_row(self):
        for kind, rule in itertools.product(KINDS, RULES):
            self.assertIsNone(judged(Talk(2, ROOM, kind, A, rule), [0], []))

    def test_what_is_told_is_a_tuple(self):
        self.assertIsInstance(judged(Talk(2, ROOM, "true", A, "elder"), [0], [(A, "deny")]), tuple)

    def test_a_wrong_answer_at_each_place(self):
        for rule in RULES:
            talk = Talk(3, list(range(8)), "doubt", A, rule)
            trial = talk.fork()
            row = [(sentence, trial.say(sentence, [4, 6])) for sentence in (B, C, ("if", A, C), ("same", B, C), EITHER)]
            self.assertIsNone(judged(talk, [4, 6], row))
            for at, word in itertools.product(range(5), ANSWERS):
                wrong = row[:at] + [(row[at][0], word)] + row[at + 1:]
                due = None if word == row[at][1] else (at, row[at][1])
                self.assertEqual(judged(talk, [4, 6], wrong), due)
                # What stands behind a wrong answer makes no odds.
                self.assertEqual(judged(talk, [4, 6], wrong[:at + 1]), due)

    def test_a_talk_that_has_answers_already(self):
        talk = Talk(2, ROOM, "true", EITHER, "elder")
        self.assertIsNone(judged(talk, [0], [(B, "deny")]))
        talk.say(A, [0])
        self.assertEqual(judged(talk, [0], [(B, "deny")]), (0, "grant"))
        self.assertIsNone(judged(talk, [0], [(B, "grant"), (A, "deny")]))
        talk.back()
        self.assertIsNone(judged(talk, [0], [(B, "deny")]))

    def test_a_caught_talk(self):
        talk = Talk(2, ROOM, "true", EITHER, "newer")
        talk.say(A, [0])
        talk.say(B, [0])
        self.assertIsNone(judged(talk, [0], [(A, "deny"), (EITHER, "grant")]))
        self.assertEqual(judged(talk, [0], [(A, "deny"), (EITHER, "deny")]), (1, "grant"))

    def test_against_the_slow_talk(self):
        chance = random.Random("judged")
        for many, room, kind, sentence in footings_by_chance("judged", 150):
            for rule in RULES:
                talk, slow = Talk(many, room, kind, sentence, rule), SlowTalk(room, kind, sentence, rule)
                for turn in range(chance.randrange(3)):
                    said, seen = sentence_by_chance(chance, many), row_by_chance(chance, room, 3)
                    talk.say(said, seen)
                    slow.say(said, seen)
                seen, row, due = row_by_chance(chance, room, 3), [], None
                for at in range(5):
                    said = sentence_by_chance(chance, many)
                    word = slow.say(said, seen)
                    row.append((said, word if chance.random() < 0.8 else chance.choice(ANSWERS)))
                    if due is None and row[-1][1] != word:
                        due = (at, word)
                first, kept = looks_of(talk), copy.deepcopy((seen, row))
                self.assertEqual(judged(talk, seen, row), due)
                self.assertEqual(looks_of(talk), first)
                self.assertEqual((seen, row), kept)

    def test_an_ended_talk(self):
        for row in ([], [(A, "grant")], [(C, "grant")], [(A, "yes")], [(C, "yes")]):
            talk = Talk(2, ROOM, "true", EITHER, "elder")
            talk.end()
            self.assertEqual(refusal_of(judged, talk, [0], row), TalkOver)

    def test_what_of_a_row_is_refused(self):
        for rule in RULES:
            talk = Talk(2, ROOM, "true", EITHER, rule)
            talk.say(A, [0])
            first = looks_of(talk)
            for row, due in ROWS_REFUSED:
                kept = copy.deepcopy(row)
                self.assertEqual(refusal_of(judged, talk, [0], row), due, row)
                self.assertEqual((looks_of(talk), row), (first, kept))


# Good answers are judged wrong here, so that nothing is judged ahead of what is refused.
GOOD = (A, "doubt")
ROWS_REFUSED = (
    [([(C, "grant")], StrangeLetter), ([(C, "yes")], StrangeLetter), ([(A, "yes"), (C, "grant")], BadWord),
     ([(C, "grant"), (A, "yes")], StrangeLetter), ([GOOD, (("and", A, ("not", E)), "deny"), GOOD], StrangeLetter),
     ([GOOD, (A, "yes"), (D, "yes")], BadWord), ([GOOD, GOOD, GOOD, (B, "")], BadWord),
     ([GOOD, GOOD, GOOD, (C, "")], StrangeLetter), ([GOOD, (D, "elder"), (A, "")], StrangeLetter)]
    + [([(A, word)], BadWord) for word in NO_ANSWERS]
    + [([GOOD] * k + [(A, word)] + [GOOD] * (3 - k), BadWord) for k in range(4) for word in NO_ANSWERS[:3]]
    + [([GOOD] * k + [(C, "grant")] + [GOOD] * (3 - k), StrangeLetter) for k in range(4)])


class Falls(unittest.TestCase):
    def test_a_row_that_does_not_fall(self):
        self.assertIsNone(falls(2, ROOM, "true", EITHER, []))
        self.assertIsNone(falls(2, ROOM, "true", EITHER, [(A, "deny"), (B, "grant"), (B, "doubt"), (A, "doubt")]))
        self.assertIsNone(falls(2, ROOM, "doubt", A, [(B, "deny"), (A, "doubt")]))

    def test_after_the_first_answer(self):
        self.assertEqual(falls(2, ROOM, "true", A, [(A, "deny")]), (1, 0, [1]))
        self.assertEqual(falls(2, ROOM, "false", A, [(A, "grant"), (A, "deny")]), (1, 0, [1]))
        self.assertEqual(falls(2, ROOM, "doubt", A, [(A, "grant")]), (1, 1, [1]))
        self.assertEqual(falls(2, ROOM, "doubt", A, [(A, "deny")]), (1, 0, [1]))
        self.assertIsInstance(falls(2, ROOM, "doubt", A, [(A, "deny")]), tuple)

    def test_after_more(self):
        row = [(A, "deny"), (A, "doubt"), (("and", A, B), "deny"), (B, "deny"), (A, "grant")]
        self.assertEqual(falls(2, ROOM, "true", EITHER, row), (4, 0, [1, 4]))
        for size in range(4):
            self.assertIsNone(falls(2, ROOM, "true", EITHER, row[:size]))
        row = [(("if", A, B), "grant"), (B, "doubt"), (("and", A, B), "deny")]
        self.assertEqual(falls(2, ROOM, "doubt", A, row), (3, 0, [1, 3]))
        self.assertEqual(falls(2, ROOM, "doubt", ("not", A), row), (3, 1, [1, 3]))

    def test_all_small_rows(self):
        met = set()
        for kind, laid in itertools.product(KINDS, ([1], [1, 2], [0, 2, 3], [0, 1, 2, 3])):
            sentence = minterms(laid, 2)
            if not all(slow_sides(ROOM, kind, sentence)):
                continue
            for one, other in itertools.product(rows_within(ROOM)[:13], repeat=2):
                for words in itertools.product(ANSWERS, repeat=2):
                    row = [(minterms(one, 2), words[0]), (minterms(other, 2), words[1])]
                    self.agree(2, ROOM, kind, sentence, row, met)
        self.assertEqual({n for n, side in met}, {1, 2})

    def agree(self, many, room, kind, sentence, row, met):
        told = falls(many, room, kind, sentence, row)
        due, slow = slow_fall(room, kind, sentence, row)
        if due is None:
            self.assertIsNone(told)
            return
        self.assertEqual(told[0], due)
        self.assertIs(slow.clash_holds(told[1:]), True)
        met.add(told[:2])

    def test_by_chance(self):
        chance, met = random.Random("falls"), set()
        for many, room, kind, sentence in footings_by_chance("falls", 400):
            row = [(sentence_by_chance(chance, many), chance.choice(ANSWERS)) for k in range(6)]
            kept = copy.deepcopy((room, row))
            self.agree(many, room, kind, sentence, row, met)
            self.assertEqual((room, row), kept)
        self.assertLess({1, 2, 3}, {n for n, side in met})
        self.assertEqual({side for n, side in met}, {0, 1})

    def test_a_list_of_places_is_changed(self):
        row = [(A, "deny"), (B, "deny")]
        falls(2, ROOM, "true", EITHER, row)[2].clear()
        self.assertEqual(falls(2, ROOM, "true", EITHER, row), (2, 0, [1, 2]))

    def test_deep_sentences(self):
        row = [(left_chain(30), "grant"), (("not", left_chain(29)), "doubt"), (left_chain(30), "deny")]
        self.assertEqual(falls(5, list(range(32)), "true", ("or", A, E), row)[0], 3)

    def test_what_of_a_row_is_refused(self):
        for kind in KINDS:
            for row, due in ROWS_REFUSED:
                self.assertEqual(refusal_of(falls, 2, ROOM, kind, A, row), due, row)
                # Nor does it help that the row has fallen already.
                self.assertEqual(refusal_of(falls, 2, ROOM, kind, A, [(A, "grant"), (A, "deny")] + row), due, row)

    def test_refusals_of_the_footing(self):
        self.assertEqual(refusal_of(falls, 2, ROOM, "true", C, []), StrangeLetter)
        self.assertEqual(refusal_of(falls, 2, ROOM, "true", NEVER_TRUE, []), NoStanding)
        self.assertEqual(refusal_of(falls, 2, ROOM, "doubt", ALWAYS_TRUE, []), NoStanding)
        for kind in ("", "elder", "newer", "grant", "deny", "True"):
            self.assertEqual(refusal_of(falls, 2, ROOM, kind, A, []), BadWord)
            self.assertEqual(refusal_of(falls, 2, ROOM, kind, NEVER_TRUE, []), BadWord)
            self.assertEqual(refusal_of(falls, 2, ROOM, kind, C, []), StrangeLetter)

    def test_they_go_ahead_of_those_of_the_row(self):
        for row in ([(C, "grant")], [(A, "yes")], [(C, "yes"), (A, "")]):
            self.assertEqual(refusal_of(falls, 2, ROOM, "true", D, row), StrangeLetter)
            self.assertEqual(refusal_of(falls, 2, ROOM, "elder", A, row), BadWord)
            self.assertEqual(refusal_of(falls, 2, ROOM, "true", NEVER_TRUE, row), NoStanding)


if __name__ == "__main__":
    unittest.main()
