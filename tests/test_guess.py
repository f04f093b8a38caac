import copy
import itertools
import random
import unittest

from holdtalk.errors import BadWord, NoStanding, StrangeLetter
from holdtalk.guess import guesses
from holdtalk.talk import Talk
from tests.helper import (ANSWERS, EITHER, KINDS, LETTER, NEVER_TRUE, RULES, SlowTalk, footings_by_chance, left_chain,
                          refusal_of, row_by_chance, sentence_by_chance, slow_seen)

A, B, C, D, E = LETTER
ROOM = [0, 1, 2, 3]


def slow_guesses(many, room, kind, sentence, row):
    """All guesses, by a slow talk of each."""
    told = []
    for rule, marks in itertools.product(RULES, itertools.product((None, False, True), repeat=many)):
        seen, slow = slow_seen(room, marks), SlowTalk(room, kind, sentence, rule)
        if seen and all(slow.say(said, seen) == word for said, word in row):
            told.append((rule, list(marks)))
    return told


class Guesses(unittest.TestCase):
    def test_the_empty_row_and_the_order(self):
        marks = [[None, None], [None, False], [None, True], [False, None], [False, False], [False, True], [True, None],
                 [True, False], [True, True]]
        due = [(rule, each) for rule in ("elder", "newer") for each in marks]
        self.assertEqual(guesses(2, ROOM, "true", EITHER, []), due)
        self.assertEqual(guesses(1, [0, 1], "doubt", A, []),
                         [(rule, [mark]) for rule in RULES for mark in (None, False, True)])

    def test_marks_that_leave_no_world_are_no_guess(self):
        self.assertEqual(guesses(2, [1, 2], "true", A, []), [
            (rule, marks) for rule in RULES
            for marks in ([None, None], [None, False], [None, True], [False, None], [False, True], [True, None],
                          [True, False])])
        self.assertEqual(guesses(1, [1], "true", A, []), [(rule, [mark]) for rule in RULES for mark in (None, True)])

    def test_by_the_rule_alone(self):
        self.assertEqual(guesses(2, ROOM, "true", EITHER, [(A, "deny"), (B, "deny")]), [("newer", [False, False])])
        self.assertEqual(guesses(2, ROOM, "true", EITHER, [(A, "deny"), (B, "grant")]),
                         [("elder", [False, None]), ("elder", [False, False]), ("elder", [False, True]),
                          ("newer", [False, True])])

    def test_none(self):
        self.assertEqual(guesses(2, ROOM, "true", A, [(A, "deny")]), [])
        self.assertEqual(guesses(2, ROOM, "true", EITHER, [(A, "deny"), (EITHER, "doubt")]), [])

    def test_what_is_told(self):
        told = guesses(2, ROOM, "true", EITHER, [])
        self.assertIsInstance(told, list)
        for pair in told:
            self.assertIsInstance(pair, tuple)
            self.assertIsInstance(pair[1], list)
            for mark in pair[1]:
                self.assertTrue(mark is None or mark is True or mark is False)

    def test_against_the_slow_reckoner(self):
        chance, met = random.Random("guesses"), set()
        for footing in footings_by_chance("guesses", 150):
            many, room, kind, sentence = footing
            if many == 5:
                continue
            talk, seen = Talk(*footing, chance.choice(RULES)), row_by_chance(chance, room, 2)
            row = []
            for turn in range(chance.randrange(5)):
                said = sentence_by_chance(chance, many)
                word = talk.say(said, seen)
                row.append((said, word if chance.random() < 0.9 else chance.choice(ANSWERS)))
            kept = copy.deepcopy((room, row))
            told = guesses(many, room, kind, sentence, row)
            self.assertEqual(told, slow_guesses(many, room, kind, sentence, row))
            self.assertEqual((room, row), kept)
            met |= {(many, len(told) > 0, len({rule for rule, marks in told}))}
        self.assertLessEqual({(many, True, 2) for many in range(1, 5)}, met)
        self.assertLessEqual({0, 1}, {rules for many, some, rules in met})

    def test_five_letters(self):
        room = list(range(32))
        row = [(A, "grant"), (("if", A, E), "doubt"), (("or", B, C), "grant"), (left_chain(30), "doubt")]
        for kind in KINDS:
            self.assertEqual(guesses(5, room, kind, ("same", D, E), row),
                             slow_guesses(5, room, kind, ("same", D, E), row))

    def test_a_long_row_of_large_sentences(self):
        room, talk = list(range(32)), Talk(5, list(range(32)), "doubt", ("same", A, E), "newer")
        chance = random.Random("long row")
        row = [(said, talk.say(said, [7])) for said in [sentence_by_chance(chance, 5) for k in range(60)]]
        self.assertIn(("newer", [True, True, True, False, False]), guesses(5, room, "doubt", ("same", A, E), row))

    def test_a_list_of_marks_is_changed(self):
        told = guesses(2, ROOM, "true", EITHER, [])
        kept = copy.deepcopy(told)
        for at, (rule, marks) in enumerate(told):
            marks.append("changed")
            marks[0] = "changed"
            self.assertEqual(told[at + 1:], kept[at + 1:])
        self.assertEqual(guesses(2, ROOM, "true", EITHER, []), kept)

    def test_refusals_of_the_footing_go_ahead(self):
        for row in ([], [(C, "grant")], [(A, "yes")], [(A, "grant"), (C, "yes")]):
            self.assertEqual(refusal_of(guesses, 2, ROOM, "true", D, row), StrangeLetter)
            self.assertEqual(refusal_of(guesses, 2, ROOM, "elder", A, row), BadWord)
            self.assertEqual(refusal_of(guesses, 2, ROOM, "", NEVER_TRUE, row), BadWord)
            self.assertEqual(refusal_of(guesses, 2, ROOM, "bad", D, row), StrangeLetter)
            self.assertEqual(refusal_of(guesses, 2, ROOM, "true", NEVER_TRUE, row), NoStanding)
            self.assertEqual(refusal_of(guesses, 2, ROOM, "doubt", NEVER_TRUE, row), NoStanding)

    def test_refusals_of_the_row(self):
        # The first answer is wrong by all guesses: what comes behind is refused all the same.
        good = (EITHER, "deny")
        for k in range(4):
            ahead, behind = [good] * k, [good] * (3 - k)
            for word in ("deny", "no"):
                row = ahead + [(C, word)] + behind
                self.assertEqual(refusal_of(guesses, 2, ROOM, "true", EITHER, row), StrangeLetter)
            for word in ("", "no", "true", "elder", "Grant"):
                self.assertEqual(refusal_of(guesses, 2, ROOM, "true", EITHER, ahead + [(A, word)] + behind), BadWord)
        self.assertEqual(refusal_of(guesses, 2, ROOM, "true", EITHER, [(A, "no"), (C, "deny")]), BadWord)
        self.assertEqual(refusal_of(guesses, 2, ROOM, "true", EITHER, [(C, "deny"), (A, "no")]), StrangeLetter)


if __name__ == "__main__":
    unittest.main()
