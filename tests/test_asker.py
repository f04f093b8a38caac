import copy
import itertools
import random
import unittest

from holdtalk.asker import apart_by, catch_by, way_to
from holdtalk.errors import StrangeLetter, TalkOver
from holdtalk.sentences import depth, letters, read
from holdtalk.talk import Talk
from tests.helper import (ALWAYS_TRUE, EITHER, KINDS, LETTER, RULES, footings_by_chance, left_chain, looks_of,
                          minterms, not_chain, refusal_of, row_by_chance, rows_within, sentence_by_chance, slow_sides,
                          slow_true, tuple_count, wide_sentence)

A, B, C, D, E = LETTER
ROOM = [0, 1, 2, 3]


def mask(row):
    """A row of worlds as a number, so that the slow searches below come to an end."""
    return sum(1 << world for world in row)


def masks_within(row):
    """All rows of worlds of a row, the empty one too, as numbers."""
    told = [0]
    for world in row:
        told += [each | 1 << world for each in told]
    return told


def due(sides, going, seen, worlds):
    """The answer due, with rows of worlds as numbers."""
    if going & ~worlds == 0:
        return "grant"
    if going & worlds == 0:
        return "deny"
    if seen & ~worlds == 0 and all(side & going & worlds for side in sides):
        return "grant"
    if seen & worlds == 0 and all(side & going & ~worlds for side in sides):
        return "deny"
    return "doubt"


class Search:
    """All that an asker can make of a talk by seen worlds, found by trying all rows of worlds as sentences."""

    def __init__(self, talk, seen):
        self.sides = [mask(side) for side in talk.sides()]
        self.base, self.elder, self.seen = mask(talk.base()), talk.rule == "elder", mask(seen)
        self.rows = masks_within(talk.room())
        # The held worlds that can be come to, each with the fewest sentences that it takes.
        self.fewest = {mask(talk.held()): 0}
        layer = list(self.fewest)
        while layer:
            reached = {self.behind(held, worlds): self.fewest[held] + 1 for held in layer for worlds in self.rows}
            layer = [held for held in reached if held not in self.fewest]
            for held in layer:
                self.fewest[held] = reached[held]

    def due(self, held, worlds):
        return due(self.sides, held if self.elder else self.base, self.seen, worlds)

    def behind(self, held, worlds):
        word = self.due(held, worlds)
        return {"grant": held & worlds, "deny": held & ~worlds, "doubt": held}[word]

    def to_goal(self, goal):
        """The fewest sentences that bring the talk to a goal, or None."""
        return min([many + 1 for held, many in self.fewest.items() if self.due(held, goal) == "grant"], default=None)

    def to_catch(self):
        """The fewest sentences that catch the talk, or None."""
        return min([many for held, many in self.fewest.items() if not all(side & held for side in self.sides)],
                   default=None)


def small_talks(many):
    """New talks of so many letters: all rooms, footings and rules."""
    for room in rows_within(list(range(2 ** many)))[1:]:
        for kind, inside, rule in itertools.product(KINDS, rows_within(room), RULES):
            sentence = minterms(inside, many)
            if all(slow_sides(room, kind, sentence)):
                yield Talk(many, room, kind, sentence, rule)


def talk_by_chance(chance, footing, rule, most=3):
    """A talk with some answers."""
    talk = Talk(*footing, rule)
    for turn in range(chance.randrange(most + 1)):
        talk.say(sentence_by_chance(chance, talk.many), row_by_chance(chance, talk.room(), 3))
    return talk


class Told(unittest.TestCase):
    """What is asked of all that the asker is told."""

    def said_form(self, sentence, many):
        self.assertLess(letters(sentence)[-1], many)
        self.assertLessEqual(depth(sentence), 60)
        self.assertLessEqual(tuple_count(sentence), 2000)

    def check_way(self, talk, goal, seen, fewest=None, searched=False):
        """Whether what way_to tells is right; where all rows were gone through, also whether it is the shortest."""
        first, kept = looks_of(talk), list(seen)
        told = way_to(talk, goal, seen)
        self.assertEqual((looks_of(talk), seen), (first, kept))
        self.assertIsInstance(told, tuple)
        if searched:
            self.assertEqual(told[0], "never" if fewest is None else "row")
        if told[0] == "row":
            self.check_row(talk, goal, seen, told[1])
            self.assertEqual(len(told), 2)
            self.assertEqual(len(told[1]), fewest if searched else len(told[1]))
        else:
            self.check_reason(talk, goal, seen, told)
        return told

    def check_row(self, talk, goal, seen, row):
        trial = talk.fork()
        words = [trial.say(sentence, seen) for sentence in row]
        self.assertEqual((row[-1], words[-1]), (goal, "grant"))
        self.assertLessEqual(len(row), 2)
        for sentence in row[:-1]:
            self.said_form(sentence, talk.many)
        if len(row) == 2:
            self.assertNotEqual(talk.ask(goal, seen), "grant")

    def check_reason(self, talk, goal, seen, told):
        word, why, what = told
        self.assertEqual(word, "never")
        if talk.rule == "newer":
            self.assertEqual((why, what), ("fixed", talk.ask(goal, seen)))
            self.assertNotEqual(what, "grant")
        elif why == "side":
            of_side = set(talk.held()) & set(talk.sides()[what])
            self.assertFalse([world for world in of_side if slow_true(goal, world)])
        else:
            self.assertEqual(why, "kept")
            self.assertIn(what, set(talk.held()) & set(seen))
            self.assertFalse(slow_true(goal, what))

    def check_catch(self, talk, seen, fewest=None, searched=False):
        first, kept = looks_of(talk), list(seen)
        row = catch_by(talk, seen)
        self.assertEqual((looks_of(talk), seen), (first, kept))
        if searched:
            self.assertEqual(None if row is None else len(row), fewest)
        if row is not None:
            self.assertIsInstance(row, list)
            self.assertLessEqual(len(row), 2)
            trial = talk.fork()
            for sentence in row:
                self.said_form(sentence, talk.many)
                self.assertIs(trial.caught(), False)
                trial.say(sentence, seen)
            self.assertIs(trial.caught(), True)
        return row

    def check_apart(self, one, other, seen, searched=True):
        first, kept = (looks_of(one), looks_of(other)), list(seen)
        sentence = apart_by(one, other, seen)
        self.assertEqual((looks_of(one), looks_of(other), seen), (*first, kept))
        if sentence is not None:
            self.said_form(sentence, one.many)
            self.assertNotEqual(one.ask(sentence, seen), other.ask(sentence, seen))
        elif searched:
            parts = [([mask(side) for side in talk.sides()], mask(talk.going()), mask(seen)) for talk in (one, other)]
            for worlds in masks_within(one.room()):
                self.assertEqual(due(*parts[0], worlds), due(*parts[1], worlds))
        return sentence


class WayTo(Told):
    def test_at_once(self):
        for rule in RULES:
            talk = Talk(2, ROOM, "true", EITHER, rule)
            self.assertEqual(way_to(talk, EITHER, [0]), ("row", [EITHER]))
            self.assertEqual(way_to(talk, A, [1]), ("row", [A]))
            self.assertEqual(way_to(talk, ALWAYS_TRUE, [0, 1]), ("row", [ALWAYS_TRUE]))

    def test_by_two_sentences(self):
        talk = Talk(2, ROOM, "true", EITHER, "elder")
        told = self.check_way(talk, B, [0])
        self.assertEqual((told[0], len(told[1])), ("row", 2))
        told = self.check_way(talk, ("and", A, B), [0])
        self.assertEqual((told[0], len(told[1])), ("row", 2))

    def test_by_the_newer_rule(self):
        talk = Talk(2, ROOM, "true", EITHER, "newer")
        self.assertEqual(way_to(talk, B, [0]), ("never", "fixed", "deny"))
        self.assertEqual(way_to(talk, B, [0, 2]), ("never", "fixed", "doubt"))
        self.assertEqual(way_to(talk, ("not", EITHER), [0]), ("never", "fixed", "deny"))

    def test_a_side(self):
        talk = Talk(2, ROOM, "doubt", A, "elder")
        self.assertEqual(way_to(talk, A, [1]), ("never", "side", 1))
        self.assertEqual(way_to(talk, ("not", A), [0]), ("never", "side", 0))
        self.assertEqual(way_to(talk, ("and", A, B), [3]), ("never", "side", 1))
        self.assertEqual(way_to(Talk(2, ROOM, "true", A, "elder"), ("not", A), [0]), ("never", "side", 0))
        talk = Talk(2, ROOM, "true", EITHER, "elder")
        talk.say(A, [0])
        self.assertEqual(way_to(talk, ("not", B), [0]), ("never", "side", 0))

    def test_a_world_that_is_kept(self):
        talk = Talk(2, ROOM, "true", EITHER, "elder")
        self.assertEqual(way_to(talk, B, [0, 1]), ("never", "kept", 1))
        self.assertEqual(way_to(talk, ("and", A, B), [1, 3]), ("never", "kept", 1))

    def test_against_a_search_through_all_rows_of_one_letter_and_two(self):
        met = {}
        for many in (1, 2):
            for talk in small_talks(many):
                room = talk.room()
                goals = [(mask(row), minterms(row, many)) for row in rows_within(room)]
                for seen in rows_within(room)[1:]:
                    search = Search(talk, seen)
                    for worlds, goal in goals:
                        told = self.check_way(talk, goal, seen, search.to_goal(worlds), True)
                        kind = (talk.rule, told[1] if told[0] == "never" else len(told[1]))
                        met[kind] = met.get(kind, 0) + 1
        self.assertEqual(set(met), {("elder", 1), ("elder", 2), ("elder", "side"), ("elder", "kept"), ("newer", 1),
                                    ("newer", "fixed")})

    def test_behind_answers_and_with_three_letters(self):
        chance, met = random.Random("ways"), set()
        for footing in footings_by_chance("ways", 260):
            if footing[0] > 3:
                continue
            for rule in RULES:
                talk, seen = talk_by_chance(chance, footing, rule), row_by_chance(chance, footing[1], 3)
                search = Search(talk, seen)
                for turn in range(4):
                    goal = sentence_by_chance(chance, talk.many)
                    worlds = mask(world for world in talk.room() if slow_true(goal, world))
                    told = self.check_way(talk, goal, seen, search.to_goal(worlds), True)
                    met.add((rule, told[1] if told[0] == "never" else len(told[1])))
        self.assertEqual(len(met), 6)

    def test_four_and_five_letters(self):
        chance, met = random.Random("long ways"), set()
        for footing in footings_by_chance("long ways", 150):
            if footing[0] < 4:
                continue
            for rule, turn in itertools.product(RULES, range(5)):
                talk, seen = talk_by_chance(chance, footing, rule), row_by_chance(chance, footing[1], 3)
                goal = minterms(row_by_chance(chance, footing[1]), talk.many)
                told = self.check_way(talk, goal, seen)
                met.add((rule, told[1] if told[0] == "never" else len(told[1])))
        self.assertEqual(len(met), 6)

    def test_deep_and_large_goals(self):
        room = list(range(32))
        for goal in (not_chain(30), left_chain(30), wide_sentence(200), read("-" * 58 + "b")):
            for rule, kind, seen in itertools.product(RULES, KINDS, ([0], [31], [5, 9])):
                self.check_way(Talk(5, room, kind, ("or", C, ("and", D, E)), rule), goal, seen)

    def test_the_list_that_is_told_is_changed(self):
        talk = Talk(2, ROOM, "true", EITHER, "elder")
        way_to(talk, EITHER, [0])[1].append(9)
        way_to(talk, B, [0])[1].clear()
        self.assertEqual(way_to(talk, EITHER, [0]), ("row", [EITHER]))
        self.assertEqual(len(way_to(talk, B, [0])[1]), 2)

    def test_refusals(self):
        for rule in RULES:
            talk = Talk(2, ROOM, "true", EITHER, rule)
            talk.say(A, [0])
            first = looks_of(talk)
            for strange in (C, ("or", A, ("not", E)), ("and", D, ("not", D))):
                self.assertEqual(refusal_of(way_to, talk, strange, [0]), StrangeLetter)
            self.assertEqual(looks_of(talk), first)
            talk.end()
            for goal in (A, EITHER, C):
                self.assertEqual(refusal_of(way_to, talk, goal, [0]), TalkOver)


class CatchBy(Told):
    def test_by_the_elder_rule_there_is_none(self):
        chance = random.Random("elder catch")
        for footing in footings_by_chance("elder catch", 60):
            talk = talk_by_chance(chance, footing, "elder")
            self.assertIsNone(catch_by(talk, row_by_chance(chance, footing[1], 3)))

    def test_a_caught_talk(self):
        talk = Talk(2, ROOM, "true", EITHER, "newer")
        talk.say(A, [0])
        talk.say(B, [0])
        for seen in rows_within(ROOM)[1:]:
            self.assertEqual(catch_by(talk, seen), [])

    def test_by_one_sentence(self):
        talk = Talk(2, ROOM, "true", EITHER, "newer")
        talk.say(A, [0])
        self.assertEqual(len(self.check_catch(talk, [0])), 1)
        self.assertEqual(len(self.check_catch(talk, [1])), 1)
        self.assertIsNone(self.check_catch(talk, [2]))

    def test_by_two_sentences(self):
        talk = Talk(2, ROOM, "true", EITHER, "newer")
        self.assertEqual(len(self.check_catch(talk, [0])), 2)
        talk = Talk(2, ROOM, "doubt", A, "newer")
        self.assertEqual(len(self.check_catch(talk, [0])), 2)
        self.assertEqual(len(self.check_catch(talk, [3])), 2)
        self.assertIsNone(self.check_catch(talk, [0, 1]))

    def test_a_side_of_one_world_is_never_taken(self):
        self.assertIsNone(self.check_catch(Talk(2, ROOM, "true", ("and", A, B), "newer"), [0]))
        self.assertIsNone(self.check_catch(Talk(2, ROOM, "doubt", ("and", A, B), "newer"), [0]))
        self.assertEqual(len(self.check_catch(Talk(2, ROOM, "doubt", ("and", A, B), "newer"), [3])), 2)

    def test_the_side_with_the_fewest_sentences(self):
        # Two by the first side, one by the second, and the other way round.
        for laid in (A, ("not", A)):
            talk = Talk(3, list(range(8)), "doubt", laid, "newer")
            talk.say(("if", ("not", A), B), [3])
            self.assertEqual(len(self.check_catch(talk, [1])), 1)
            talk.back()
            talk.say(("if", A, B), [0])
            self.assertEqual(len(self.check_catch(talk, [0])), 1)

    def test_against_a_search_through_all_rows_of_one_letter_and_two(self):
        met = set()
        for many in (1, 2):
            for talk in small_talks(many):
                for seen in rows_within(talk.room())[1:]:
                    row = self.check_catch(talk, seen, Search(talk, seen).to_catch(), True)
                    met.add((talk.rule, None if row is None else len(row)))
        self.assertEqual(met, {("elder", None), ("newer", None), ("newer", 2)})

    def test_behind_answers_and_with_three_letters(self):
        chance, met = random.Random("catches"), set()
        for footing in footings_by_chance("catches", 300):
            if footing[0] > 3:
                continue
            talk, seen = talk_by_chance(chance, footing, "newer", 5), row_by_chance(chance, footing[1], 2)
            row = self.check_catch(talk, seen, Search(talk, seen).to_catch(), True)
            met.add(None if row is None else len(row))
        self.assertEqual(met, {0, 1, 2, None})

    def test_four_and_five_letters(self):
        chance, met = random.Random("long catches"), set()
        for footing in footings_by_chance("long catches", 200):
            if footing[0] < 4:
                continue
            for turn in range(6):
                talk, seen = talk_by_chance(chance, footing, "newer", 5), row_by_chance(chance, footing[1], 2)
                row = self.check_catch(talk, seen)
                met.add(None if row is None else len(row))
                if footing[0] == 4 and len(footing[1]) < 13 and (row is None or len(row) == 2):
                    sides, base, held = [mask(side) for side in talk.sides()], mask(talk.base()), mask(talk.held())
                    for worlds in masks_within(talk.room()):
                        word = due(sides, base, mask(seen), worlds)
                        left = {"grant": held & worlds, "deny": held & ~worlds, "doubt": held}[word]
                        self.assertTrue(all(side & left for side in sides))
        self.assertEqual(met, {0, 1, 2, None})

    def test_the_list_that_is_told_is_changed(self):
        talk = Talk(2, ROOM, "true", EITHER, "newer")
        catch_by(talk, [0]).clear()
        self.assertEqual(len(catch_by(talk, [0])), 2)
        talk.say(A, [0])
        talk.say(B, [0])
        catch_by(talk, [0]).append(9)
        self.assertEqual(catch_by(talk, [0]), [])

    def test_an_ended_talk(self):
        for rule, said in itertools.product(RULES, range(3)):
            talk = Talk(2, ROOM, "true", EITHER, rule)
            for sentence in (A, B)[:said]:
                talk.say(sentence, [0])
            talk.end()
            self.assertEqual(refusal_of(catch_by, talk, [0]), TalkOver)


class ApartBy(Told):
    def test_a_talk_and_itself(self):
        chance = random.Random("itself")
        for footing in footings_by_chance("itself", 40):
            for rule in RULES:
                talk, seen = talk_by_chance(chance, footing, rule), row_by_chance(chance, footing[1], 3)
                self.assertIsNone(apart_by(talk, talk, seen))
                self.assertIsNone(apart_by(talk, talk.fork(), seen))

    def test_two_talks_alike(self):
        # Laid down otherwise, but with the same sides; and by rules that do the same while nothing is said.
        one, other = Talk(2, ROOM, "true", EITHER, "elder"), Talk(2, ROOM, "false", ("not", EITHER), "newer")
        for seen in rows_within(ROOM)[1:]:
            self.assertIsNone(self.check_apart(one, other, seen))
            self.assertIsNone(self.check_apart(Talk(2, ROOM, "doubt", A, "elder"),
                                               Talk(2, ROOM, "doubt", ("not", A), "newer"), seen))

    def test_unlike_footings(self):
        one, other = Talk(2, ROOM, "true", A, "elder"), Talk(2, ROOM, "false", A, "elder")
        for seen in rows_within(ROOM)[1:]:
            self.assertIsNotNone(self.check_apart(one, other, seen))
            self.assertIsNotNone(self.check_apart(one, Talk(2, ROOM, "doubt", A, "elder"), seen))

    def test_unlike_rules(self):
        one, other = Talk(2, ROOM, "true", EITHER, "elder"), Talk(2, ROOM, "true", EITHER, "newer")
        one.say(A, [0])
        other.say(A, [0])
        self.assertIsNotNone(self.check_apart(one, other, [0]))
        self.assertIsNotNone(self.check_apart(other, one, [0]))

    def test_unlike_answers(self):
        one = Talk(2, ROOM, "true", EITHER, "elder")
        other = one.fork()
        one.say(A, [0])
        other.say(B, [0])
        self.assertIsNotNone(self.check_apart(one, other, [0]))
        self.assertIsNotNone(self.check_apart(one, other, [3]))
        one, other = Talk(2, ROOM, "true", EITHER, "newer"), Talk(2, ROOM, "true", EITHER, "newer")
        one.say(A, [0])
        one.say(B, [0])
        self.assertIs(one.caught(), True)
        self.assertIsNone(self.check_apart(one, other, [0]))

    def test_all_pairs_of_one_letter(self):
        told = set()
        for one, other in itertools.product(list(small_talks(1)), repeat=2):
            if one.room() == other.room():
                for seen in rows_within(one.room())[1:]:
                    told.add(self.check_apart(one, other, seen) is None)
        self.assertEqual(told, {True, False})

    def test_all_pairs_of_footings_of_two_letters(self):
        talks = [talk for talk in small_talks(2) if talk.rule == "elder" and talk.room() in (ROOM, [0, 1, 3])]
        told = {True: 0, False: 0}
        for one, other in itertools.combinations_with_replacement(talks, 2):
            if one.room() == other.room():
                for seen in ([0], [1, 3], one.room()):
                    told[self.check_apart(one, other, seen) is None] += 1
        self.assertGreater(told[True], 50)
        self.assertGreater(told[False], 50)

    def test_behind_answers_with_two_letters_and_three(self):
        chance, met = random.Random("apart"), set()
        for many, room, kind, sentence in footings_by_chance("apart", 500):
            if many > 3:
                continue
            one = talk_by_chance(chance, (many, room, kind, sentence), chance.choice(RULES), 4)
            other = one.fork()
            if chance.random() < 0.6:
                other = talk_by_chance(chance, (many, room, kind, sentence), chance.choice(RULES), 4)
            if chance.random() < 0.4:
                other.say(sentence_by_chance(chance, many), row_by_chance(chance, room, 2))
            seen = row_by_chance(chance, room, 2)
            alike = self.check_apart(one, other, seen) is None
            outside = not set(seen) <= set(one.base())
            met |= {(alike, "caught", one.caught() or other.caught()), (alike, "outside", outside),
                    (alike, "rules", one.rule == other.rule), (alike, "letters", many)}
        self.assertEqual(len(met), 18)

    def test_four_letters_with_a_search_and_five_without(self):
        chance, told = random.Random("far apart"), set()
        for footing in footings_by_chance("far apart", 300):
            if footing[0] < 4:
                continue
            one = talk_by_chance(chance, footing, chance.choice(RULES))
            other = one.fork() if chance.random() < 0.5 else Talk(*footing, chance.choice(RULES))
            other.say(sentence_by_chance(chance, one.many), row_by_chance(chance, footing[1], 2))
            seen = row_by_chance(chance, footing[1], 2)
            alike = self.check_apart(one, other, seen, len(footing[1]) < 13) is None
            told.add((footing[0], alike))
        self.assertEqual(len(told), 4)

    def test_the_widest_talks(self):
        room = list(range(32))
        for laid, rule in itertools.product((A, E, ("same", A, ("same", B, C))), RULES):
            one, other = Talk(5, room, "doubt", laid, rule), Talk(5, room, "doubt", ("not", laid), rule)
            self.assertIsNone(apart_by(one, other, [0, 7]))
            other = Talk(5, room, "doubt", ("same", laid, minterms([9], 5)), rule)
            self.assertIsNotNone(self.check_apart(one, other, [0], False))

    def test_ended_talks(self):
        for rules in itertools.product(RULES, repeat=2):
            one, other = Talk(2, ROOM, "true", A, rules[0]), Talk(2, ROOM, "true", A, rules[1])
            ended = one.fork()
            ended.end()
            first = copy.deepcopy([looks_of(one), looks_of(other), looks_of(ended)])
            self.assertEqual(refusal_of(apart_by, ended, other, [0]), TalkOver)
            self.assertEqual(refusal_of(apart_by, other, ended, [0]), TalkOver)
            self.assertEqual(refusal_of(apart_by, ended, ended, [0]), TalkOver)
            self.assertEqual(refusal_of(apart_by, ended, ended.fork(), [0]), TalkOver)
            self.assertIsNone(refusal_of(apart_by, one, other, [0]))
            self.assertEqual([looks_of(one), looks_of(other), looks_of(ended)], first)


if __name__ == "__main__":
    unittest.main()
