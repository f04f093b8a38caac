import itertools
import random
import unittest

from holdtalk.errors import BadWord, NoStanding, NothingSaid, StrangeLetter, TalkOver
from holdtalk.sentences import read
from holdtalk.talk import Talk
from tests.helper import (ALWAYS_TRUE, ANSWERS, CONTRARY, EITHER, KINDS, LETTER, NEVER_TRUE, RULES, SlowTalk,
                          footings_by_chance, left_chain, looks_of, minterms, not_chain, refusal_of, row_by_chance,
                          rows_within, sentence_by_chance, slow_plain, slow_sides, wide_sentence)

A, B, C, D, E = LETTER
ROOM = [0, 1, 2, 3]


def either_talk(rule):
    """A talk in which `a` or `b` is true."""
    return Talk(2, ROOM, "true", EITHER, rule)


class NewTalk(unittest.TestCase):
    def test_each_kind_and_each_rule(self):
        sides = {"true": [[1, 3]], "false": [[0, 2]], "doubt": [[1, 3], [0, 2]]}
        bases = {"true": [1, 3], "false": [0, 2], "doubt": [0, 1, 2, 3]}
        for kind, rule in itertools.product(KINDS, RULES):
            talk = Talk(2, ROOM, kind, A, rule)
            self.assertEqual((talk.many, talk.kind, talk.sentence, talk.rule), (2, kind, A, rule))
            self.assertEqual((talk.room(), talk.sides()), (ROOM, sides[kind]))
            self.assertEqual((talk.base(), talk.held(), talk.going()), (bases[kind],) * 3)
            self.assertEqual(talk.entries(), [])
            self.assertIs(talk.caught(), False)
            self.assertIs(talk.over(), False)

    def test_against_a_slow_reckoning(self):
        for many, room, kind, sentence in footings_by_chance("new talks", 200):
            for rule in RULES:
                talk = Talk(many, room, kind, sentence, rule)
                sides = [sorted(side) for side in slow_sides(room, kind, sentence)]
                base = sorted(itertools.chain.from_iterable(sides))
                self.assertEqual(looks_of(talk), {
                    "fields": (many, kind, sentence, rule), "room": room, "base": base, "held": base, "going": base,
                    "sides": sides, "entries": [], "caught": False, "over": False})

    def test_the_room_that_was_handed_in_is_changed_behind(self):
        for kind, rule in itertools.product(KINDS, RULES):
            room = [0, 1, 2, 3]
            talk = Talk(2, room, kind, A, rule)
            first = looks_of(talk)
            room.pop(0)
            room.append(7)
            self.assertEqual(looks_of(talk), first)
            room.clear()
            self.assertEqual(looks_of(talk), first)
            self.assertEqual(looks_of(talk.fork()), first)

    def test_a_room_that_is_handed_in_stays(self):
        for kind, rule in itertools.product(KINDS, RULES):
            room = [0, 1, 2, 3]
            talk = Talk(2, room, kind, A, rule)
            talk.say(B, [0, 1])
            talk.say(("not", B), [1])
            self.assertEqual(room, [0, 1, 2, 3])

    def test_each_list_that_is_told_is_changed(self):
        for kind, rule in itertools.product(KINDS, RULES):
            talk = Talk(2, ROOM, kind, A, rule)
            talk.say(B, [0, 1])
            first = looks_of(talk)
            for look in (talk.room, talk.base, talk.held, talk.going, talk.sides, talk.entries):
                look().append(9)
                look()[0] = 8
                look().clear()
                self.assertEqual(looks_of(talk), first)
            for side in talk.sides():
                side.append(9)
                side.reverse()
            self.assertEqual(looks_of(talk), first)
            self.assertEqual(talk.ask(A, [0, 1]), {"true": "grant", "false": "deny", "doubt": "doubt"}[kind])

    def test_deep_and_large_sentences(self):
        for sentence in (not_chain(30), left_chain(30), wide_sentence(200), read("-" * 59 + "d")):
            for rule in RULES:
                talk = Talk(5, list(range(32)), "doubt", sentence, rule)
                self.assertEqual(talk.sides(), [sorted(side) for side in
                                                slow_sides(range(32), "doubt", sentence)])
                self.assertEqual(talk.ask(sentence, [0]), "doubt")


class TalkRefusals(unittest.TestCase):
    NO_KINDS = ("", "elder", "newer", "grant", "deny", "True", "true ", "DOUBT", "a")
    NO_RULES = ("", "true", "false", "doubt", "grant", "deny", "Elder", "newer ", "new", "a")

    def refused(self, many, room, kind, sentence, rule):
        return refusal_of(Talk, many, room, kind, sentence, rule)

    def test_a_strange_sentence(self):
        for many in range(1, 5):
            room = list(range(2 ** many))
            for kind, rule in itertools.product(KINDS, RULES):
                for k in range(many, 5):
                    self.assertEqual(self.refused(many, room, kind, LETTER[k], rule), StrangeLetter)
                    self.assertEqual(self.refused(many, room, kind, ("if", A, ("not", LETTER[k])), rule), StrangeLetter)
                self.assertIsNone(self.refused(many, room, kind, LETTER[many - 1], rule))

    def test_a_letter_that_makes_no_odds_is_strange_too(self):
        self.assertEqual(self.refused(1, [0, 1], "doubt", ("and", A, ("or", B, ("not", B))), "elder"), StrangeLetter)

    def test_a_bad_kind(self):
        for kind, rule in itertools.product(self.NO_KINDS, RULES):
            self.assertEqual(self.refused(2, ROOM, kind, A, rule), BadWord)

    def test_a_bad_rule(self):
        for kind, rule in itertools.product(KINDS, self.NO_RULES):
            self.assertEqual(self.refused(2, ROOM, kind, A, rule), BadWord)

    def test_an_empty_side(self):
        for rule in RULES:
            for room in (ROOM, [0], [1, 2]):
                self.assertEqual(self.refused(2, room, "true", NEVER_TRUE, rule), NoStanding)
                self.assertEqual(self.refused(2, room, "false", ALWAYS_TRUE, rule), NoStanding)
                self.assertEqual(self.refused(2, room, "doubt", NEVER_TRUE, rule), NoStanding)
                self.assertEqual(self.refused(2, room, "doubt", ALWAYS_TRUE, rule), NoStanding)
            self.assertEqual(self.refused(2, [0, 2], "true", A, rule), NoStanding)
            self.assertEqual(self.refused(2, [1, 3], "doubt", A, rule), NoStanding)

    def test_each_mixture(self):
        strange = ("and", C, ("not", C))
        for kind, rule, sentence in itertools.product(("true", "elder", ""), ("newer", "true", ""),
                                                      (A, NEVER_TRUE, strange)):
            if sentence == strange:
                due = StrangeLetter
            elif kind != "true" or rule != "newer":
                due = BadWord
            else:
                due = NoStanding if sentence == NEVER_TRUE else None
            self.assertEqual(self.refused(2, ROOM, kind, sentence, rule), due, (kind, rule, sentence))

    def test_kind_and_rule_exchanged(self):
        self.assertEqual(self.refused(2, ROOM, "elder", A, "true"), BadWord)

    def test_what_is_handed_in_stays(self):
        room = [0, 1, 2, 3]
        self.refused(2, room, "true", NEVER_TRUE, "elder")
        self.refused(2, room, "true", C, "elder")
        self.refused(2, room, "bad", A, "elder")
        self.assertEqual(room, [0, 1, 2, 3])


class AskAndSay(unittest.TestCase):
    def test_true_in_all_worlds_that_the_talk_goes_by(self):
        for rule, seen in itertools.product(RULES, ([0], [0, 1], [3], ROOM)):
            self.assertEqual(either_talk(rule).ask(EITHER, seen), "grant")
            self.assertEqual(either_talk(rule).say(EITHER, seen), "grant")

    def test_true_in_none_of_them(self):
        for rule, seen in itertools.product(RULES, ([0], [0, 1], [3], ROOM)):
            self.assertEqual(either_talk(rule).ask(("not", EITHER), seen), "deny")
            self.assertEqual(either_talk(rule).say(("not", EITHER), seen), "deny")

    def test_plain_answers(self):
        for rule in RULES:
            for seen, due in (([1], "grant"), ([1, 3], "grant"), ([0], "deny"), ([0, 2], "deny"), ([0, 1], "doubt")):
                self.assertEqual(either_talk(rule).ask(A, seen), due)
                self.assertEqual(either_talk(rule).say(A, seen), due)

    def test_the_exception(self):
        for rule in RULES:
            talk = Talk(2, ROOM, "doubt", A, rule)
            self.assertEqual([talk.ask(A, [1]), talk.ask(A, [0]), talk.ask(("not", A), [0])], ["doubt"] * 3)
            self.assertEqual(talk.ask(("and", A, B), [3]), "doubt")
            self.assertEqual(talk.ask(EITHER, [0]), "doubt")
            self.assertEqual(talk.ask(EITHER, [3]), "grant")
            self.assertEqual(talk.ask(("and", A, B), [0]), "deny")

    def test_by_the_elder_rule_an_answer_binds(self):
        talk = either_talk("elder")
        self.assertEqual(talk.ask(B, [0]), "deny")
        self.assertEqual(talk.say(A, [0]), "deny")
        self.assertEqual((talk.held(), talk.going(), talk.base()), ([2], [2], [1, 2, 3]))
        self.assertEqual(talk.say(B, [0]), "grant")
        self.assertEqual(talk.entries(), [(A, "deny"), (B, "grant")])
        self.assertIs(talk.caught(), False)

    def test_by_the_newer_rule_it_does_not(self):
        talk = either_talk("newer")
        self.assertEqual(talk.say(A, [0]), "deny")
        self.assertEqual((talk.held(), talk.going()), ([2], [1, 2, 3]))
        self.assertIs(talk.caught(), False)
        self.assertEqual(talk.say(B, [0]), "deny")
        self.assertEqual((talk.held(), talk.going()), ([], [1, 2, 3]))
        self.assertEqual(talk.entries(), [(A, "deny"), (B, "deny")])
        self.assertIs(talk.caught(), True)
        self.assertEqual(talk.say(B, [0]), "deny")
        self.assertEqual(talk.say(EITHER, [0]), "grant")

    def test_caught_by_one_side_of_two(self):
        talk = Talk(3, list(range(8)), "doubt", A, "newer")
        # In none of the seen worlds is a true; b or c is, wherever a is.
        for sentence in (("if", A, B), ("if", A, ("not", B))):
            self.assertIs(talk.caught(), False)
            self.assertEqual(talk.say(sentence, [0, 2]), "grant")
        self.assertEqual(talk.held(), [0, 2, 4, 6])
        self.assertIs(talk.caught(), True)

    def test_a_doubted_sentence_leaves_all(self):
        for rule in RULES:
            talk = either_talk(rule)
            self.assertEqual(talk.say(A, [0, 1]), "doubt")
            self.assertEqual((talk.held(), talk.entries()), ([1, 2, 3], [(A, "doubt")]))

    def test_seen_worlds_that_change_between_two_answers(self):
        for rule in RULES:
            talk = either_talk(rule)
            told = [talk.say(A, [0, 1, 2, 3]), talk.say(A, [1, 3]), talk.say(A, [0])]
            self.assertEqual(told, ["doubt", "grant", "grant" if rule == "elder" else "deny"])
            self.assertEqual(talk.held(), [1, 3] if rule == "elder" else [])
            self.assertIs(talk.caught(), rule == "newer")

    def test_ask_leaves_nothing(self):
        chance = random.Random("ask")
        for many, room, kind, sentence in footings_by_chance("ask", 60):
            for rule in RULES:
                talk = Talk(many, room, kind, sentence, rule)
                for turn in range(3):
                    first = looks_of(talk)
                    asked = [(sentence_by_chance(chance, many), row_by_chance(chance, room)) for k in range(4)]
                    told = [talk.ask(*each) for each in asked]
                    self.assertEqual([talk.ask(*each) for each in asked], told)
                    self.assertEqual(looks_of(talk), first)
                    self.assertEqual(talk.say(*asked[turn]), told[turn])

    def test_against_the_slow_answerer(self):
        chance = random.Random("say")
        met, caught = set(), 0
        for many, room, kind, sentence in footings_by_chance("say", 300):
            for rule in RULES:
                talk, slow = Talk(many, room, kind, sentence, rule), SlowTalk(room, kind, sentence, rule)
                seen = row_by_chance(chance, room, 3)
                for turn in range(chance.randrange(1, 9)):
                    if chance.random() < 0.3:
                        seen = row_by_chance(chance, room, 3)
                    said, asked = sentence_by_chance(chance, many), sentence_by_chance(chance, many)
                    self.assertEqual(talk.ask(asked, seen), slow.ask(asked, seen))
                    word = talk.say(said, seen)
                    self.assertEqual(word, slow.say(said, seen))
                    self.assertEqual((talk.entries(), set(talk.held()), set(talk.going()), talk.caught()),
                                     (slow.entries, slow.held(), slow.going(), slow.caught()))
                    self.assertEqual(talk.held(), sorted(talk.held()))
                    met.add((rule, word))
                caught += talk.caught()
        self.assertEqual(met, set(itertools.product(RULES, ANSWERS)))
        self.assertGreater(caught, 5)

    def test_sentences_and_seen_worlds_that_are_handed_in_stay(self):
        for rule in RULES:
            talk, seen = either_talk(rule), [0]
            talk.ask(A, seen)
            talk.say(A, seen)
            self.assertEqual(seen, [0])
            first = looks_of(talk)
            seen.append(1)
            self.assertEqual(looks_of(talk), first)

    def test_a_contrary_sentence_gets_the_contrary_answer(self):
        chance = random.Random("contrary")
        for many, room, kind, sentence in footings_by_chance("contrary", 50):
            for rule in RULES:
                talk = Talk(many, room, kind, sentence, rule)
                for turn in range(4):
                    asked, seen = sentence_by_chance(chance, many), row_by_chance(chance, room, 3)
                    self.assertEqual(talk.ask(("not", asked), seen), CONTRARY[talk.say(asked, seen)])

    def test_strange_sentences(self):
        for rule in RULES:
            talk = either_talk(rule)
            talk.say(A, [0])
            first = looks_of(talk)
            for strange in (C, ("not", E), ("or", A, ("and", D, ("not", D)))):
                self.assertEqual(refusal_of(talk.ask, strange, [0]), StrangeLetter)
                self.assertEqual(refusal_of(talk.say, strange, [0]), StrangeLetter)
            self.assertEqual(looks_of(talk), first)
            for many in range(1, 6):
                talk = Talk(many, list(range(2 ** many)), "doubt", A, rule)
                told = [refusal_of(talk.say, letter, [0]) for letter in LETTER]
                self.assertEqual(told, [None] * many + [StrangeLetter] * (5 - many))


class BothRules(unittest.TestCase):
    def test_a_talk_by_the_elder_rule_is_never_caught(self):
        for kind, inside in itertools.product(KINDS, rows_within(ROOM)):
            sentence = minterms(inside, 2)
            if not all(slow_sides(ROOM, kind, sentence)):
                continue
            seen_rows = rows_within(ROOM)[1:]
            for first, second in itertools.product(rows_within(ROOM), repeat=2):
                talk = Talk(2, ROOM, kind, sentence, "elder")
                for turn, worlds in enumerate((first, second, first[:1])):
                    talk.say(minterms(worlds, 2), seen_rows[(len(first) * 5 + sum(second) * 3 + turn * 4) % 15])
                    self.assertIs(talk.caught(), False)

    def test_never_caught_by_chance(self):
        chance = random.Random("never caught")
        for many, room, kind, sentence in footings_by_chance("never caught", 150):
            talk = Talk(many, room, kind, sentence, "elder")
            for turn in range(12):
                talk.say(sentence_by_chance(chance, many), row_by_chance(chance, room, 2))
                self.assertIs(talk.caught(), False)

    def test_a_talk_by_the_newer_rule_answers_alike_in_whatever_order(self):
        chance = random.Random("order")
        for many, room, kind, sentence in footings_by_chance("order", 60):
            seen = row_by_chance(chance, room, 3)
            asked = [sentence_by_chance(chance, many) for k in range(4)]
            new = Talk(many, room, kind, sentence, "newer")
            alone = [new.ask(each, seen) for each in asked]
            for order in itertools.permutations(range(4)):
                talk = Talk(many, room, kind, sentence, "newer")
                for k in order:
                    self.assertEqual(talk.say(asked[k], seen), alone[k])

    def test_by_the_elder_rule_the_order_counts(self):
        one, other = either_talk("elder"), either_talk("elder")
        self.assertEqual([one.say(A, [0]), one.say(B, [0])], ["deny", "grant"])
        self.assertEqual([other.say(B, [0]), other.say(A, [0])], ["deny", "grant"])


class Back(unittest.TestCase):
    def test_to_nothing_and_beyond(self):
        for rule in RULES:
            talk = either_talk(rule)
            looks = [looks_of(talk)]
            said = [(A, [0]), (("if", A, B), [1]), (B, [0])]
            for each in said:
                talk.say(*each)
                looks.append(looks_of(talk))
            words = [word for sentence, word in talk.entries()]
            for k in (2, 1, 0):
                self.assertEqual(looks_of(talk), looks[k + 1])
                self.assertEqual(talk.back(), (said[k][0], words[k]))
            for k in range(3):
                self.assertEqual(looks_of(talk), looks[0])
                self.assertEqual(refusal_of(talk.back), NothingSaid)
            self.assertEqual(looks_of(talk), looks[0])
            self.assertEqual([talk.say(*each) for each in said], words)
            self.assertEqual(looks_of(talk), looks[3])

    def test_a_new_talk(self):
        for kind, rule in itertools.product(KINDS, RULES):
            self.assertEqual(refusal_of(Talk(2, ROOM, kind, A, rule).back), NothingSaid)

    def test_a_caught_talk_is_free_again(self):
        talk = either_talk("newer")
        talk.say(A, [0])
        talk.say(B, [0])
        self.assertIs(talk.caught(), True)
        self.assertEqual(talk.back(), (B, "deny"))
        self.assertIs(talk.caught(), False)
        self.assertEqual(talk.held(), [2])

    def test_the_pair_is_a_tuple(self):
        talk = either_talk("elder")
        talk.say(A, [0])
        self.assertIsInstance(talk.entries()[0], tuple)
        self.assertIsInstance(talk.back(), tuple)

    def test_by_chance_against_a_talk_that_never_said_it(self):
        chance = random.Random("back")
        for many, room, kind, sentence in footings_by_chance("back", 100):
            for rule in RULES:
                talk, kept = Talk(many, room, kind, sentence, rule), []
                for turn in range(12):
                    if kept and chance.random() < 0.4:
                        self.assertEqual(talk.back()[0], kept.pop()[0])
                    else:
                        kept.append((sentence_by_chance(chance, many), row_by_chance(chance, room, 3)))
                        talk.say(*kept[-1])
                    fresh = Talk(many, room, kind, sentence, rule)
                    for each in kept:
                        fresh.say(*each)
                    self.assertEqual(looks_of(talk), looks_of(fresh))


class Fork(unittest.TestCase):
    def test_ahead_of_between_and_behind_answers(self):
        for rule, ahead in itertools.product(RULES, range(4)):
            said = [(A, [0]), (("not", B), [1]), (EITHER, [0])]
            talk = either_talk(rule)
            for each in said[:ahead]:
                talk.say(*each)
            other = talk.fork()
            self.assertIsInstance(other, Talk)
            self.assertEqual(looks_of(other), looks_of(talk))
            for each in said[ahead:]:
                self.assertEqual(talk.say(*each), other.say(*each))
                self.assertEqual(looks_of(other), looks_of(talk))

    def test_both_go_apart(self):
        for rule in RULES:
            talk = either_talk(rule)
            talk.say(("same", A, B), [0, 3])
            other = talk.fork()
            first = looks_of(talk)
            other.say(A, [0])
            other.say(B, [1])
            self.assertEqual(looks_of(talk), first)
            second = looks_of(other)
            talk.say(B, [2])
            self.assertEqual(looks_of(other), second)
            self.assertNotEqual(talk.entries(), other.entries())
            other.back()
            other.back()
            self.assertEqual(looks_of(other), first)

    def test_both_are_taken_back_to_nothing(self):
        for rule in RULES:
            talk = either_talk(rule)
            new = looks_of(talk)
            talk.say(A, [0])
            talk.say(B, [0])
            other = talk.fork()
            said = talk.entries()
            self.assertEqual([other.back(), other.back()], said[::-1])
            self.assertEqual(refusal_of(other.back), NothingSaid)
            self.assertEqual(looks_of(other), new)
            self.assertEqual(talk.entries(), said)
            self.assertEqual([talk.back(), talk.back()], said[::-1])
            self.assertEqual(refusal_of(talk.back), NothingSaid)
            self.assertEqual(looks_of(talk), new)

    def test_a_fork_of_a_fork(self):
        for rule in RULES:
            talk = either_talk(rule)
            talk.say(A, [0])
            other = talk.fork()
            other.say(B, [0])
            third = other.fork()
            third.back()
            self.assertEqual(looks_of(third), looks_of(talk))
            third.say(("not", A), [1])
            third.end()
            self.assertEqual([each.over() for each in (talk, other, third)], [False, False, True])
            self.assertEqual([len(each.entries()) for each in (talk, other, third)], [1, 2, 2])

    def test_ending_one_does_not_end_the_other(self):
        talk = either_talk("elder")
        other = talk.fork()
        talk.end()
        self.assertIs(other.over(), False)
        self.assertEqual(other.say(A, [0]), "deny")
        talk = either_talk("elder")
        other = talk.fork()
        other.end()
        self.assertIs(talk.over(), False)
        self.assertEqual(talk.say(A, [0]), "deny")


class End(unittest.TestCase):
    def test_twice(self):
        for rule in RULES:
            talk = either_talk(rule)
            talk.say(A, [0])
            first = looks_of(talk)
            self.assertIsNone(talk.end())
            self.assertIs(talk.over(), True)
            self.assertEqual(looks_of(talk), {**first, "over": True})
            self.assertEqual(refusal_of(talk.end), TalkOver)
            self.assertEqual(looks_of(talk), {**first, "over": True})

    def test_say_and_back_behind_it(self):
        for rule, said in itertools.product(RULES, (0, 1)):
            talk = either_talk(rule)
            for turn in range(said):
                talk.say(A, [0])
            talk.end()
            first = looks_of(talk)
            self.assertEqual(refusal_of(talk.say, A, [0]), TalkOver)
            self.assertEqual(refusal_of(talk.say, E, [0]), TalkOver)
            self.assertEqual(refusal_of(talk.back), TalkOver)
            self.assertEqual(looks_of(talk), first)

    def test_ask_behind_it_tells_the_plain_answer(self):
        chance = random.Random("over")
        unlike = 0
        for many, room, kind, sentence in footings_by_chance("over", 80):
            for rule in RULES:
                talk = Talk(many, room, kind, sentence, rule)
                talk.say(sentence_by_chance(chance, many), row_by_chance(chance, room, 3))
                other = talk.fork()
                talk.end()
                for worlds in (row_by_chance(chance, room), [], room, talk.base()):
                    asked, seen = minterms(worlds, many), row_by_chance(chance, room, 3)
                    self.assertEqual(talk.ask(asked, seen), slow_plain(seen, worlds))
                    unlike += talk.ask(asked, seen) != other.ask(asked, seen)
                self.assertEqual(refusal_of(talk.ask, LETTER[4] if many < 5 else ("let", 5), [0]), StrangeLetter)
        self.assertGreater(unlike, 20)

    def test_a_fork_of_an_ended_talk_is_ended(self):
        for rule in RULES:
            talk = either_talk(rule)
            talk.say(A, [0])
            talk.end()
            other = talk.fork()
            self.assertEqual(looks_of(other), looks_of(talk))
            self.assertIs(other.over(), True)
            self.assertEqual([refusal_of(other.say, A, [0]), refusal_of(other.back), refusal_of(other.end)],
                             [TalkOver] * 3)
            self.assertEqual(other.ask(EITHER, [0]), "deny")

    def test_a_caught_talk_can_be_ended(self):
        talk = either_talk("newer")
        talk.say(A, [0])
        talk.say(B, [0])
        talk.end()
        self.assertIs(talk.caught(), True)
        self.assertEqual(talk.held(), [])


class SideBySide(unittest.TestCase):
    def test_two_talks_of_one_list_are_two(self):
        room = [0, 1, 2, 3]
        one, other = Talk(2, room, "true", EITHER, "elder"), Talk(2, room, "true", EITHER, "elder")
        first = looks_of(other)
        one.say(A, [0])
        one.end()
        self.assertEqual(looks_of(other), first)


if __name__ == "__main__":
    unittest.main()
