import itertools
import random
import unittest

from holdtalk.footing import base_of, sides_of
from holdtalk.knowledge import seen_by
from holdtalk.rules import answer, barring_side, left_by
from holdtalk.worlds import room_of, worlds_of
from tests.helper import CONTRARY, LETTER, rows_within, slow_answer, slow_true, some_sentences

A, B, C, D, E = LETTER
ROOM = [0, 1, 2, 3]


def footings(room):
    """The sides of all footings of a room."""
    for inside in rows_within(room)[1:]:
        outside = [world for world in room if world not in inside]
        yield [inside]
        if outside:
            yield [inside, outside]


def cases(room):
    """All that can be handed in for a room: sides, going, seen, worlds."""
    rows = rows_within(room)
    return itertools.product(footings(room), rows[1:], rows[1:], rows)


class Cases(unittest.TestCase):
    def test_true_in_all_of_going(self):
        # The plain answer is "deny", "doubt" and "grant" in turn.
        for seen in ([0], [0, 1], [1]):
            self.assertEqual(answer([[1, 3]], [1, 3], seen, [1, 3]), "grant")
            self.assertEqual(answer([[1, 3]], [1], seen, [1]), "grant")

    def test_true_in_none_of_going(self):
        for seen in ([0], [0, 1], [1]):
            self.assertEqual(answer([[0, 2]], [0, 2], seen, [1, 3]), "deny")
            self.assertEqual(answer([[0, 2]], [0], seen, []), "deny")

    def test_going_goes_ahead_of_what_is_seen(self):
        self.assertEqual(answer([[1, 3]], [1, 3], [0, 2], [1, 3]), "grant")
        self.assertEqual(answer([[1, 3]], [1, 3], [0, 2], [0, 2]), "deny")

    def test_plain_answers(self):
        sides = [[0, 1, 2, 3]]
        self.assertEqual(answer(sides, ROOM, [1], [1, 3]), "grant")
        self.assertEqual(answer(sides, ROOM, [1, 3], [1, 3]), "grant")
        self.assertEqual(answer(sides, ROOM, [0, 2], [1, 3]), "deny")
        self.assertEqual(answer(sides, ROOM, [0, 1], [1, 3]), "doubt")
        self.assertEqual(answer(sides, ROOM, ROOM, [1, 3]), "doubt")

    def test_plain_answers_on_two_sides(self):
        sides = [[1, 3], [0, 2]]
        self.assertEqual(answer(sides, ROOM, [2], [2, 3]), "grant")
        self.assertEqual(answer(sides, ROOM, [0], [2, 3]), "deny")
        self.assertEqual(answer(sides, ROOM, [0, 2], [2, 3]), "doubt")

    def test_the_exception_at_a_grant_by_the_first_side(self):
        self.assertEqual(answer([[1, 3], [0, 2]], ROOM, [2], [0, 2]), "doubt")
        self.assertEqual(answer([[1, 3], [0, 2]], [0, 2, 3], [2], [2]), "doubt")

    def test_the_exception_at_a_grant_by_the_second_side(self):
        self.assertEqual(answer([[1, 3], [0, 2]], ROOM, [3], [1, 3]), "doubt")
        self.assertEqual(answer([[1, 3], [0, 2]], [0, 1, 3], [3], [3]), "doubt")

    def test_the_exception_at_a_deny_by_the_first_side(self):
        self.assertEqual(answer([[1, 3], [0, 2]], ROOM, [2], [1, 3]), "doubt")
        self.assertEqual(answer([[1, 3], [0, 2]], ROOM, [0], [1, 2, 3]), "doubt")

    def test_the_exception_at_a_deny_by_the_second_side(self):
        self.assertEqual(answer([[1, 3], [0, 2]], ROOM, [3], [0, 2]), "doubt")
        self.assertEqual(answer([[1, 3], [0, 2]], ROOM, [1], [0, 2, 3]), "doubt")

    def test_the_exception_is_not_met_where_the_barred_answer_is_not_the_plain_one(self):
        # Granting would not stand, but the plain answer is "deny", and denying does.
        self.assertEqual(answer([[1, 3], [0, 2]], ROOM, [3], [1]), "deny")
        # Denying would not stand, but the plain answer is "grant", and granting does.
        self.assertEqual(answer([[1, 3], [0, 2]], ROOM, [3], [0, 2, 3]), "grant")

    def test_going_that_does_not_stand(self):
        for seen in ([0], [1], [0, 1]):
            self.assertEqual(answer([[1, 3], [0, 2]], [1, 3], seen, [0, 1, 3]), "grant")
            self.assertEqual(answer([[1, 3], [0, 2]], [1, 3], seen, [0, 2]), "deny")
            self.assertEqual(answer([[1, 3], [0, 2]], [1, 3], seen, [0, 1]), "doubt")
            self.assertEqual(answer([[1]], [2, 3], seen, [2]), "doubt")
            self.assertEqual(answer([[1]], [2, 3], seen, [1, 2, 3]), "grant")

    def test_worlds_outside_going_do_not_help(self):
        # The first side has a world in which the sentence is true, but the talk doesn't go by it.
        self.assertEqual(answer([[1, 3], [0, 2]], [0, 1, 2], [2], [2, 3]), "doubt")
        self.assertEqual(answer([[1, 3], [0, 2]], [0, 1, 2, 3], [2], [2, 3]), "grant")

    def test_one_world_to_go_by(self):
        for worlds in rows_within(ROOM):
            for seen in rows_within(ROOM)[1:]:
                due = "grant" if 2 in worlds else "deny"
                self.assertEqual(answer([[1, 2]], [2], seen, worlds), due)


class Answer(unittest.TestCase):
    def test_all_cases_of_small_rooms_against_the_slow_answerer(self):
        for room in (ROOM, [6], [0, 7], [1, 2, 4]):
            for case in cases(room):
                self.assertEqual(answer(*case), slow_answer(*case), case)

    def test_the_contrary_row_gets_the_contrary_answer(self):
        for sides, going, seen, worlds in cases(ROOM):
            contrary = [world for world in ROOM if world not in worlds]
            self.assertEqual(answer(sides, going, seen, contrary), CONTRARY[answer(sides, going, seen, worlds)])

    def test_by_chance_with_five_letters(self):
        chance = random.Random("rules")
        met = set()
        for k in range(3000):
            room = sorted(chance.sample(range(32), chance.randrange(2, 33)))
            inside = sorted(chance.sample(room, chance.randrange(1, len(room))))
            outside = [world for world in room if world not in inside]
            sides = chance.choice(([inside], [outside], [inside, outside]))
            going = sorted(chance.sample(room, chance.randrange(1, len(room) + 1)))
            seen = sorted(chance.sample(room, chance.randrange(1, min(4, len(room)) + 1)))
            worlds = sorted(chance.sample(room, chance.randrange(len(room) + 1)))
            contrary = [world for world in room if world not in worlds]
            due = answer(sides, going, seen, worlds)
            met.add(due)
            self.assertEqual(due, slow_answer(sides, going, seen, worlds))
            self.assertEqual(answer(sides, going, seen, contrary), CONTRARY[due])
        self.assertEqual(met, {"grant", "deny", "doubt"})

    def test_a_base_from_sentences(self):
        # Laid down: a is in doubt; standing: if a, then b. Known: c is true, a is false.
        room = room_of(3, [("if", A, B)])
        sides = sides_of(room, "doubt", A)
        seen = seen_by(room, [False, None, True])
        due = {"c": C, "-c": ("not", C), "b": B, "-a": ("not", A), "(a>b)": ("if", A, B), "(a&c)": ("and", A, C),
               "(a|c)": ("or", A, C)}
        told = {name: answer(sides, base_of(sides), seen, worlds_of(sentence, room)) for name, sentence in due.items()}
        self.assertEqual(told, {"c": "grant", "-c": "deny", "b": "doubt", "-a": "doubt", "(a>b)": "grant",
                                "(a&c)": "deny", "(a|c)": "grant"})

    def test_sentences_against_the_slow_answerer(self):
        room = list(range(32))
        for laid, sentence in zip(some_sentences("laid", 300, 3), some_sentences("asked", 300, 3)):
            inside = [world for world in room if slow_true(laid, world)]
            outside = [world for world in room if not slow_true(laid, world)]
            if not inside or not outside:
                continue
            worlds = [world for world in room if slow_true(sentence, world)]
            for seen in ([world for world in room if world % 8 == 5], [7], room):
                due = slow_answer([inside, outside], room, seen, worlds)
                sides = sides_of(room, "doubt", laid)
                self.assertEqual(answer(sides, base_of(sides), seen, worlds_of(sentence, room)), due)

    def test_nothing_handed_in_is_changed(self):
        for going, seen, worlds in itertools.product(rows_within([0, 1, 2])[1:], [[0], [1, 3]], [[], [0, 2], [1, 2]]):
            sides = [[1, 3], [0, 2]]
            kept = (list(going), list(seen), list(worlds))
            first = answer(sides, going, seen, worlds)
            self.assertEqual(answer(sides, going, seen, worlds), first)
            self.assertEqual((sides, (going, seen, worlds)), ([[1, 3], [0, 2]], kept))


class BarringSide(unittest.TestCase):
    SIDES = [[1, 3], [0, 2]]

    def test_no_side_bars_a_plain_doubt(self):
        self.assertIsNone(barring_side(self.SIDES, ROOM, [0, 1], [1, 3]))
        self.assertIsNone(barring_side(self.SIDES, [1, 3], [0, 1], [1]))

    def test_the_first_side_that_has_none(self):
        self.assertEqual(barring_side(self.SIDES, ROOM, [2], [0, 2]), 0)
        self.assertEqual(barring_side(self.SIDES, ROOM, [3], [1, 3]), 1)
        self.assertEqual(barring_side(self.SIDES, ROOM, [2], [1, 3]), 0)
        self.assertEqual(barring_side(self.SIDES, ROOM, [3], [0, 2]), 1)
        self.assertEqual(barring_side([[1], [2]], [1, 2, 3], [3], [3]), 0)

    def test_no_side_bars_what_stands(self):
        self.assertIsNone(barring_side(self.SIDES, ROOM, [2], [2, 3]))
        self.assertIsNone(barring_side(self.SIDES, ROOM, [0], [2, 3]))


class LeftBy(unittest.TestCase):
    def test_each_answer(self):
        self.assertEqual(left_by("grant", [0, 1, 2], [1, 2, 3]), [1, 2])
        self.assertEqual(left_by("deny", [0, 1, 2], [1, 2, 3]), [0])
        self.assertEqual(left_by("doubt", [0, 1, 2], [1, 2, 3]), [0, 1, 2])

    def test_what_is_handed_in_stays_and_what_is_told_is_the_askers(self):
        for word in CONTRARY:
            row, worlds = [0, 1, 2], [1, 2, 3]
            told = left_by(word, row, worlds)
            told.append(9)
            told[0] = 8
            self.assertEqual((row, worlds), ([0, 1, 2], [1, 2, 3]))


if __name__ == "__main__":
    unittest.main()
