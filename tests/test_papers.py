import copy
import itertools
import random
import unittest

from holdtalk.errors import StrangeLetter, TalkOver
from holdtalk.papers import clash_of, needed_rows, paper_holds, paper_of, rows_lead
from holdtalk.talk import Talk
from tests.helper import (ALWAYS_TRUE, EITHER, KINDS, LETTER, NEVER_TRUE, RULES, SlowTalk, footings_by_chance,
                          looks_of, minterms, refusal_of, row_by_chance, rows_within, sentence_by_chance, slow_plain)

A, B, C, D, E = LETTER
ROOM = [0, 1, 2, 3]
ALL = list(range(8))
FORMS = ("follows", "contrary", "free", "barred")
WORD_OF = {"follows": ("grant",), "contrary": ("deny",), "free": ("grant", "deny", "doubt"), "barred": ("doubt",)}


def slow_barred(slow, inside, seen):
    """The side by which the exception is met, or None; asked where some worlds gone by make the sentence true alone."""
    word = slow_plain(seen, inside)
    left = {"grant": slow.going() & inside, "deny": slow.going() - inside, "doubt": slow.room}[word]
    empty = [k for k, side in enumerate(slow.sides) if not side & left]
    return empty[0] if empty else None


def slow_holds(slow, sentence, seen, paper):
    """Whether a paper holds, by the words of the document."""
    inside = slow.inside(sentence)
    word, *rest = paper
    if word in ("follows", "contrary"):
        places = rest[0]
        if any(k < 0 or k > len(slow.entries) for k in places) or places != sorted(set(places)):
            return False
        if slow.rule == "newer" and any(k != 0 for k in places):
            return False
        return slow.lead(places, inside if word == "follows" else slow.room - inside)
    one, other, *side = rest
    if one not in slow.going() & inside or other not in slow.going() - inside:
        return False
    barred = slow_barred(slow, inside, seen)
    if word == "free":
        return barred is None
    return side == [barred]


def talks_by_chance(seed, many, most):
    """Talks with some answers, each with its slow twin."""
    chance = random.Random(seed)
    for letters, room, kind, sentence in footings_by_chance(seed, many):
        for rule in RULES:
            talk, slow = Talk(letters, room, kind, sentence, rule), SlowTalk(room, kind, sentence, rule)
            for turn in range(chance.randrange(most + 1)):
                said, seen = sentence_by_chance(chance, letters), row_by_chance(chance, room, 3)
                slow.say(said, seen)
                talk.say(said, seen)
            yield chance, talk, slow


def said_by(rule, kind, laid, pairs, room=ALL):
    """A talk of three letters in which these sentences were said by these seen worlds."""
    talk = Talk(3, room, kind, laid, rule)
    for sentence, seen in pairs:
        talk.say(sentence, seen)
    return talk


class PaperOf(unittest.TestCase):
    def test_each_form_on_one_side(self):
        for rule in RULES:
            talk = Talk(2, ROOM, "true", EITHER, rule)
            self.assertEqual(paper_of(talk, EITHER, [0]), ("follows", [0]))
            self.assertEqual(paper_of(talk, ("not", EITHER), [1]), ("contrary", [0]))
            self.assertEqual(paper_of(talk, ALWAYS_TRUE, [0]), ("follows", []))
            self.assertEqual(paper_of(talk, NEVER_TRUE, [0]), ("contrary", []))
            for seen in ([0], [1], [0, 1]):
                word, one, other = paper_of(talk, A, seen)
                self.assertEqual((word, one in (1, 3), other), ("free", True, 2))

    def test_each_form_on_two_sides(self):
        for rule in RULES:
            talk = Talk(2, ROOM, "doubt", A, rule)
            self.assertEqual(paper_of(talk, ALWAYS_TRUE, [0]), ("follows", []))
            self.assertEqual(paper_of(talk, NEVER_TRUE, [0]), ("contrary", []))
            for sentence, seen, word in ((A, [1], ("barred", 1)), (A, [0], ("barred", 0)), (A, [0, 1], ("free",)),
                                         (("not", A), [1], ("barred", 1)), (("not", A), [0], ("barred", 0)),
                                         (("and", A, B), [3], ("barred", 1)), (EITHER, [0], ("barred", 0)),
                                         (EITHER, [3], ("free",)), (B, [2], ("free",)), (B, [0], ("free",))):
                form, one, other, *side = paper_of(talk, sentence, seen)
                self.assertEqual((form, *side), word, (sentence, seen))
                self.assertIs(paper_holds(talk, sentence, seen, (form, one, other, *side)), True)

    def test_places_by_the_elder_rule(self):
        talk = said_by("elder", "true", ("or", ("or", A, B), C), [(A, [0]), (B, [0, 2]), (B, [0])])
        self.assertEqual([word for sentence, word in talk.entries()], ["deny", "doubt", "deny"])
        self.assertEqual(paper_of(talk, C, [0]), ("follows", [0, 1, 3]))
        self.assertEqual(paper_of(talk, ("not", C), [0]), ("contrary", [0, 1, 3]))
        self.assertEqual(paper_of(talk, A, [0]), ("contrary", [1]))
        self.assertEqual(paper_of(talk, EITHER, [0]), ("contrary", [1, 3]))
        self.assertEqual(paper_of(talk, ("or", EITHER, C), [0]), ("follows", [0]))
        self.assertEqual(paper_of(talk, ("if", A, C), [0]), ("follows", [1]))

    def test_by_the_newer_rule_no_place_but_0(self):
        talk = said_by("newer", "true", ("or", ("or", A, B), C), [(A, [0]), (B, [0])])
        self.assertEqual(paper_of(talk, ("or", EITHER, C), [0]), ("follows", [0]))
        self.assertEqual(paper_of(talk, C, [0])[0], "free")
        self.assertEqual(paper_of(talk, A, [0])[0], "free")

    def test_each_paper_that_is_told_holds(self):
        met = set()
        for chance, talk, slow in talks_by_chance("told papers", 250, 6):
            for turn in range(4):
                sentence, seen = sentence_by_chance(chance, talk.many), row_by_chance(chance, talk.room(), 3)
                if turn == 0:
                    sentence = minterms(sorted(slow.going()), talk.many)
                if turn == 1:
                    sentence = ("not", minterms(talk.held(), talk.many))
                if turn == 2:
                    sentence = minterms(sorted(set(chance.choice(talk.sides())) | set(seen)), talk.many)
                first = looks_of(talk)
                paper = paper_of(talk, sentence, seen)
                self.assertIs(paper_holds(talk, sentence, seen, paper), True)
                self.assertIs(slow_holds(slow, sentence, seen, paper), True)
                self.assertIn(talk.ask(sentence, seen), WORD_OF[paper[0]])
                self.assertEqual(looks_of(talk), first)
                self.assertIsInstance(paper, tuple)
                met.add((talk.rule, paper[0], len(talk.sides())))
        # With one side, whatever is true in some of the worlds gone by leaves some of that side.
        self.assertEqual(met, set(itertools.product(RULES, FORMS, (1, 2))) - {(rule, "barred", 1) for rule in RULES})

    def test_a_talk_of_many_answers(self):
        said = [(("if", LETTER[k % 3], LETTER[(k * 7 + 1) % 3]), [k % 8]) for k in range(300)]
        talk = said_by("elder", "doubt", A, said)
        places = paper_of(talk, ("or", C, minterms(talk.held(), 3)), [0])[1]
        self.assertLessEqual(len(places), 8)
        self.assertIs(paper_holds(talk, ("or", C, minterms(talk.held(), 3)), [0], ("follows", places)), True)
        self.assertIs(paper_holds(talk, A, [0], ("follows", list(range(301)))), False)

    def test_a_list_of_places_is_changed(self):
        talk = said_by("elder", "true", ("or", ("or", A, B), C), [(A, [0]), (B, [0])])
        first = looks_of(talk)
        told = paper_of(talk, C, [0])
        told[1].append(9)
        told[1].pop(0)
        self.assertEqual(paper_of(talk, C, [0]), ("follows", [0, 1, 2]))
        self.assertEqual(looks_of(talk), first)


class PaperHolds(unittest.TestCase):
    def setUp(self):
        self.laid = ("or", ("or", A, B), C)
        self.pairs = [(A, [0]), (B, [0, 2]), (B, [0]), (A, [0])]

    def test_places(self):
        talk = said_by("elder", "true", self.laid, self.pairs)
        holding = {(C, "follows"): ([0, 1, 3], [0, 3, 4]), (("not", C), "contrary"): ([0, 1, 3], [0, 3, 4]),
                   (A, "contrary"): ([1], [4]), (EITHER, "contrary"): ([1, 3], [3, 4]), (ALWAYS_TRUE, "follows"): ([],),
                   (NEVER_TRUE, "contrary"): ([],), (self.laid, "follows"): ([0],)}
        tried = [list(row) for size in range(6) for row in itertools.combinations(range(5), size)]
        tried += [[5], [0, 1, 3, 5], [-1], [-1, 0, 1, 3], [0, 0, 1, 3], [0, 1, 1, 3], [3, 1, 0], [0, 3, 1], [1, 0, 3],
                  [0, 1, 10 ** 30], [-10 ** 30], [0, 1, 3, 4], [1, 1], [-4], [-5, 1]]
        for (sentence, form), places in itertools.product(holding, tried):
            due = places in holding[(sentence, form)]
            self.assertIs(paper_holds(talk, sentence, [0], (form, places)), due, (sentence, form, places))
            other = "contrary" if form == "follows" else "follows"
            self.assertIs(paper_holds(talk, sentence, [0], (other, places)), False)

    def test_by_the_newer_rule(self):
        talk = said_by("newer", "true", self.laid, self.pairs[:1] + self.pairs[2:])
        for places in ([0], [], [1], [0, 1], [1, 2], [0, 1, 2]):
            self.assertIs(paper_holds(talk, C, [0], ("follows", places)), False)
            self.assertIs(paper_holds(talk, A, [0], ("contrary", places)), False)
            self.assertIs(paper_holds(talk, self.laid, [0], ("follows", places)), places == [0])
            self.assertIs(paper_holds(talk, ("not", self.laid), [0], ("contrary", places)), places == [0])
            self.assertIs(paper_holds(talk, ALWAYS_TRUE, [0], ("follows", places)), places == [])

    def test_free_worlds(self):
        for rule in RULES:
            talk = Talk(2, [0, 1, 2, 3], "true", EITHER, rule)
            for one, other in itertools.product(range(-2, 6), repeat=2):
                due = one in (1, 3) and other == 2
                self.assertIs(paper_holds(talk, A, [0], ("free", one, other)), due, (one, other))
                for k in range(-1, 3):
                    self.assertIs(paper_holds(talk, A, [0], ("barred", one, other, k)), False)

    def test_barred_worlds(self):
        for rule in RULES:
            talk = Talk(2, [0, 1, 2, 3], "doubt", A, rule)
            for one, other, k in itertools.product(range(-2, 6), range(-2, 6), range(-2, 4)):
                worlds = one in (1, 3) and other in (0, 2)
                self.assertIs(paper_holds(talk, A, [1], ("barred", one, other, k)), worlds and k == 1)
                self.assertIs(paper_holds(talk, A, [0], ("barred", one, other, k)), worlds and k == 0)
                self.assertIs(paper_holds(talk, A, [0, 1], ("barred", one, other, k)), False)
                self.assertIs(paper_holds(talk, A, [0], ("free", one, other)), False)
                self.assertIs(paper_holds(talk, A, [0, 1], ("free", one, other)), worlds)

    def test_worlds_that_are_gone_by_no_more(self):
        talk = said_by("elder", "true", EITHER, [(("and", A, B), [0])])
        self.assertEqual(talk.held(), [1, 2, 5, 6])
        self.assertIs(paper_holds(talk, A, [0], ("free", 1, 2)), True)
        self.assertIs(paper_holds(talk, A, [0], ("free", 3, 2)), False)
        talk = said_by("newer", "true", EITHER, [(("and", A, B), [0])])
        self.assertIs(paper_holds(talk, A, [0], ("free", 3, 2)), True)
        self.assertIs(paper_holds(talk, A, [0], ("free", 0, 2)), False)

    def test_the_number_of_the_side_that_is_missed(self):
        # Where the one side is missed, the other one isn't: so no other number holds.
        talk = Talk(2, ROOM, "doubt", EITHER, "elder")
        self.assertIs(paper_holds(talk, EITHER, [1], ("barred", 1, 0, 1)), True)
        self.assertIs(paper_holds(talk, EITHER, [1], ("barred", 1, 0, 0)), False)
        self.assertIs(paper_holds(talk, EITHER, [0], ("barred", 1, 0, 0)), True)

    def test_all_papers_of_small_talks(self):
        held = 0
        for chance, talk, slow in talks_by_chance("small papers", 40, 3):
            if talk.many > 2:
                continue
            said = range(-1, len(slow.entries) + 2)
            places = [list(row) for size in range(4) for row in itertools.product(said, repeat=size)]
            worlds = list(itertools.product(range(-1, 5), repeat=2))
            papers = [(form, each) for form in FORMS[:2] for each in places]
            papers += [("free", *each) for each in worlds]
            papers += [("barred", *each, k) for each in worlds for k in range(-1, 3)]
            for inside in rows_within(talk.room()):
                sentence, seen = minterms(inside, talk.many), row_by_chance(chance, talk.room(), 2)
                for paper in papers:
                    due = slow_holds(slow, sentence, seen, paper)
                    self.assertIs(paper_holds(talk, sentence, seen, paper), due, (talk.entries(), paper))
                    held += due
        self.assertGreater(held, 100)

    def test_a_paper_that_holds_tells_the_answer_due(self):
        for chance, talk, slow in talks_by_chance("papers and answers", 60, 4):
            sentence, seen = sentence_by_chance(chance, talk.many), row_by_chance(chance, talk.room(), 3)
            paper = paper_of(talk, sentence, seen)
            for other in (("follows", [0]), ("contrary", [0]), ("follows", []), ("contrary", [])):
                if other[0] != paper[0]:
                    self.assertIs(paper_holds(talk, sentence, seen, other), False)

    def test_nothing_is_changed(self):
        talk = said_by("elder", "true", self.laid, self.pairs)
        first = looks_of(talk)
        for paper in (("follows", [0, 1, 3]), ("follows", [3, 1, 0, 1]), ("contrary", []), ("free", 1, 2),
                      ("barred", 0, 1, 0)):
            kept, seen = copy.deepcopy(paper), [0]
            paper_holds(talk, C, seen, paper)
            self.assertEqual((paper, seen), (kept, [0]))
            self.assertEqual(looks_of(talk), first)


class Refusals(unittest.TestCase):
    def test_over_and_strange(self):
        for rule in RULES:
            talk = Talk(2, ROOM, "true", EITHER, rule)
            talk.say(A, [0])
            first = looks_of(talk)
            for strange in (C, ("and", A, ("not", D)), E):
                self.assertEqual(refusal_of(paper_of, talk, strange, [0]), StrangeLetter)
                for paper in (("follows", [0]), ("contrary", []), ("free", 1, 2), ("barred", 1, 2, 0)):
                    self.assertEqual(refusal_of(paper_holds, talk, strange, [0], paper), StrangeLetter)
            self.assertEqual(looks_of(talk), first)
            talk.end()
            first = looks_of(talk)
            for sentence in (A, C):
                self.assertEqual(refusal_of(paper_of, talk, sentence, [0]), TalkOver)
                for paper in (("follows", [0]), ("contrary", []), ("free", 1, 2), ("barred", 1, 2, 0)):
                    self.assertEqual(refusal_of(paper_holds, talk, sentence, [0], paper), TalkOver)
            self.assertEqual(looks_of(talk), first)


class ClashOf(unittest.TestCase):
    def test_not_caught(self):
        for kind, rule in itertools.product(KINDS, RULES):
            talk = Talk(2, ROOM, kind, A, rule)
            self.assertIsNone(clash_of(talk))
            talk.say(B, [0])
            self.assertIsNone(clash_of(talk))
            talk.end()
            self.assertIsNone(clash_of(talk))

    def test_on_one_side(self):
        talk = said_by("newer", "true", EITHER, [(C, [0]), (A, [0]), (C, [0, 4]), (B, [0])])
        self.assertEqual(clash_of(talk), (0, [2, 4]))
        self.assertIsInstance(clash_of(talk), tuple)
        talk = said_by("newer", "false", ("not", EITHER), [(A, [0]), (B, [0])])
        self.assertEqual(clash_of(talk), (0, [1, 2]))

    def test_by_each_side(self):
        said = [(("if", A, B), [0]), (("if", A, ("not", B)), [0])]
        self.assertEqual(clash_of(said_by("newer", "doubt", A, said)), (0, [1, 2]))
        self.assertEqual(clash_of(said_by("newer", "doubt", ("not", A), said)), (1, [1, 2]))

    def test_an_ended_talk_and_answers_taken_back(self):
        talk = said_by("newer", "true", EITHER, [(A, [0]), (B, [0])])
        other = talk.fork()
        talk.end()
        self.assertEqual(clash_of(talk), (0, [1, 2]))
        other.back()
        self.assertIsNone(clash_of(other))
        other.say(("and", A, B), [0])
        self.assertIsNone(clash_of(other))
        other.say(B, [0])
        self.assertEqual(clash_of(other), (0, [1, 3]))

    def test_against_the_slow_reckoning(self):
        sides = set()
        for chance, talk, slow in talks_by_chance("clashes", 300, 7):
            first = looks_of(talk)
            clash = clash_of(talk)
            self.assertEqual(clash is None, not slow.caught())
            if clash is not None:
                self.assertIs(slow.clash_holds(clash), True)
                sides.add((len(slow.sides), clash[0]))
                clash[1].append(0)
            self.assertEqual(looks_of(talk), first)
            self.assertEqual(talk.caught(), clash_of(talk) is not None)
        self.assertEqual(sides, {(1, 0), (2, 0), (2, 1)})


class Leading(unittest.TestCase):
    def test_all_small_cases(self):
        room = [0, 1, 2]
        rows = rows_within(room)
        for size in range(4):
            for some in itertools.product(rows, repeat=size):
                for target in rows:
                    def common(places):
                        return set(room).intersection(*[some[k] for k in places])

                    def lead(places):
                        less = [places[:k] + places[k + 1:] for k in range(len(places))]
                        return common(places) <= set(target) and not any(common(each) <= set(target) for each in less)

                    self.assertIs(rows_lead(list(some), room, target), lead(list(range(size))))
                    if common(range(size)) <= set(target):
                        self.assertTrue(lead(needed_rows(list(some), room, target)))


if __name__ == "__main__":
    unittest.main()
