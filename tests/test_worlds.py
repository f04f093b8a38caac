import copy
import unittest

from holdtalk.errors import NoWorld, StrangeLetter
from holdtalk.sentences import depth, letters, read, shown
from holdtalk.worlds import all_worlds, room_of, sentence_of, true_in, worlds_of
from tests.helper import (ALWAYS_TRUE, JOINED, LETTER, NEVER_TRUE, left_chain, not_chain, right_chain, rows_within,
                          short_forms, slow_true, some_rows, some_sentences, tuple_count, wide_sentence)

A, B, C, D, E = LETTER
ALL = list(range(32))


class TrueIn(unittest.TestCase):
    def agree(self, sentence, worlds):
        for world in worlds:
            self.assertIs(true_in(sentence, world), slow_true(sentence, world), (sentence, world))

    def test_each_letter_in_each_world(self):
        for letter, power in enumerate((1, 2, 4, 8, 16)):
            for world in ALL:
                self.assertIs(true_in(("let", letter), world), (world // power) % 2 == 1, (letter, world))

    def test_letters_by_hand(self):
        self.assertEqual([true_in(letter, 0) for letter in LETTER], [False] * 5)
        self.assertEqual([true_in(letter, 1) for letter in LETTER], [True, False, False, False, False])
        self.assertEqual([true_in(letter, 10) for letter in LETTER], [False, True, False, True, False])
        self.assertEqual([true_in(letter, 16) for letter in LETTER], [False, False, False, False, True])
        self.assertEqual([true_in(letter, 31) for letter in LETTER], [True] * 5)

    def test_each_kind_over_all_worlds_of_its_letters(self):
        # The worlds are: neither, the first alone, the second alone, both.
        for kind, truths in (("and", [False, False, False, True]), ("or", [False, True, True, True]),
                             ("if", [True, False, True, True]), ("same", [True, False, False, True])):
            for world in range(4):
                self.assertIs(true_in((kind, A, B), world), truths[world], (kind, world))
        for world in range(2):
            self.assertIs(true_in(("not", A), world), world == 0)

    def test_each_kind_of_each_two_letters_over_all_worlds(self):
        for kind in JOINED:
            for one in LETTER:
                for other in LETTER:
                    self.agree((kind, one, other), ALL)
        for letter in LETTER:
            self.agree(("not", letter), ALL)

    def test_short_ones(self):
        for text, sentence in short_forms(6).items():
            self.agree(sentence, (0, 1, 2, 5, 14, 21, 31))

    def test_parts_of_unlike_depth(self):
        deep = ("if", ("not", B), ("same", C, A))
        for kind in JOINED:
            self.agree((kind, deep, D), ALL)
            self.agree((kind, D, deep), ALL)
            self.agree((kind, deep, ("not", deep)), ALL)
            self.agree(("not", (kind, ("or", D, deep), deep)), ALL)

    def test_thirty_and_sixty_deep(self):
        for deep in (29, 30, 31, 59, 60, 61):
            for sentence in (left_chain(deep), right_chain(deep), not_chain(deep)):
                self.agree(sentence, ALL)

    def test_widest_ones(self):
        for tuples in (199, 200, 1999, 2000):
            self.agree(wide_sentence(tuples), (0, 7, 12, 31))

    def test_a_long_row_of_strokes_that_was_read(self):
        for many in (80, 81, 5000, 5001):
            sentence = read("-" * many + "b")
            for world in range(4):
                self.assertIs(true_in(sentence, world), (world // 2 == 1) == (many % 2 == 0))

    def test_a_long_row_of_brackets_that_was_read(self):
        left = read("(" * 3000 + "a" + "&b)" * 3000)
        right = read("(b>" * 3000 + "a" + ")" * 3000)
        self.assertEqual([true_in(left, world) for world in range(4)], [False, False, False, True])
        self.assertEqual([true_in(right, world) for world in range(4)], [True, True, False, True])

    def test_by_chance(self):
        for sentence in some_sentences("true", 300, 6):
            self.agree(sentence, (0, 3, 9, 17, 22, 28, 31))

    def test_the_sentence_stays_as_it_was(self):
        for sentence in [left_chain(60), wide_sentence(2000)] + some_sentences("stays", 20, 5):
            before = copy.deepcopy(sentence)
            first = true_in(sentence, 21)
            self.assertIs(true_in(sentence, 21), first)
            self.assertEqual(sentence, before)


class WorldsOf(unittest.TestCase):
    def test_over_all_worlds(self):
        self.assertEqual(worlds_of(A, [0, 1, 2, 3]), [1, 3])
        self.assertEqual(worlds_of(("not", A), [0, 1, 2, 3]), [0, 2])
        self.assertEqual(worlds_of(("if", A, B), [0, 1, 2, 3]), [0, 2, 3])
        self.assertEqual(worlds_of(E, ALL), list(range(16, 32)))

    def test_over_a_part_of_them(self):
        self.assertEqual(worlds_of(A, [0, 3]), [3])
        self.assertEqual(worlds_of(A, [1, 3]), [1, 3])
        self.assertEqual(worlds_of(A, [0, 2]), [])
        self.assertEqual(worlds_of(C, [3, 4, 8, 12, 31]), [4, 12, 31])

    def test_over_the_empty_row(self):
        for sentence in (A, NEVER_TRUE, ALWAYS_TRUE, left_chain(60)):
            self.assertEqual(worlds_of(sentence, []), [])

    def test_none_and_all(self):
        for row in rows_within([0, 5, 6, 9, 31]):
            self.assertEqual(worlds_of(NEVER_TRUE, row), [])
            self.assertEqual(worlds_of(ALWAYS_TRUE, row), row)

    def test_against_a_slow_reckoning(self):
        rows = some_rows("worlds_of", 200, ALL) + [ALL]
        for sentence, row in zip(some_sentences("worlds_of", 201, 5), rows):
            told = worlds_of(sentence, row)
            self.assertEqual(told, [world for world in row if slow_true(sentence, world)])
            self.assertEqual(told, sorted(set(told)))

    def test_deep_ones(self):
        for sentence in (left_chain(30), left_chain(60), right_chain(60), not_chain(60), wide_sentence(2000)):
            self.assertEqual(worlds_of(sentence, ALL), [world for world in ALL if slow_true(sentence, world)])
        self.assertEqual(worlds_of(read("-" * 5001 + "a"), [0, 1, 2, 3]), [0, 2])

    def test_the_row_handed_in_stays_and_the_row_told_is_the_askers(self):
        room = [0, 1, 2, 3]
        for sentence in (A, ALWAYS_TRUE, NEVER_TRUE):
            told = worlds_of(sentence, room)
            self.assertIs(type(told), list)
            self.assertEqual(room, [0, 1, 2, 3])
            told.append(9)
            told[0] = 7
            self.assertEqual(room, [0, 1, 2, 3])
        told = worlds_of(ALWAYS_TRUE, room)
        room.clear()
        self.assertEqual(told, [0, 1, 2, 3])


class AllWorlds(unittest.TestCase):
    def test_each_number_of_letters(self):
        self.assertEqual(all_worlds(1), [0, 1])
        self.assertEqual(all_worlds(2), [0, 1, 2, 3])
        self.assertEqual(all_worlds(3), [0, 1, 2, 3, 4, 5, 6, 7])
        self.assertEqual(all_worlds(4), list(range(16)))
        self.assertEqual(all_worlds(5), list(range(32)))

    def test_each_letters_truth_in_some_world(self):
        for many in range(1, 6):
            truths = {tuple(true_in(letter, world) for letter in LETTER[:many]) for world in all_worlds(many)}
            self.assertEqual(len(truths), len(all_worlds(many)))

    def test_the_list_told_may_be_changed(self):
        for many in range(1, 6):
            told = all_worlds(many)
            self.assertIs(type(told), list)
            told.reverse()
            told.pop()
            told.append(99)
            self.assertEqual(all_worlds(many), list(range(2 ** many)))


class RoomOf(unittest.TestCase):
    def test_no_standing_sentence(self):
        for many in range(1, 6):
            self.assertEqual(room_of(many, []), list(range(2 ** many)))

    def test_one(self):
        self.assertEqual(room_of(1, [A]), [1])
        self.assertEqual(room_of(2, [("if", A, B)]), [0, 2, 3])
        self.assertEqual(room_of(5, [("not", E)]), list(range(16)))
        self.assertEqual(room_of(3, [ALWAYS_TRUE]), list(range(8)))

    def test_several(self):
        self.assertEqual(room_of(3, [("or", A, B), ("not", C)]), [1, 2, 3])
        self.assertEqual(room_of(3, [("not", C), ("or", A, B)]), [1, 2, 3])
        self.assertEqual(room_of(3, [("or", A, B), ("not", C), ("or", A, B), ("same", A, C)]), [2])

    def test_against_a_slow_reckoning(self):
        sentences = some_sentences("room_of", 300, 3)
        for k in range(0, 300, 3):
            standing = sentences[k:k + 3]
            slow = [world for world in ALL if all(slow_true(sentence, world) for sentence in standing)]
            if slow:
                self.assertEqual(room_of(5, standing), slow)
            else:
                self.assertRaises(NoWorld, room_of, 5, standing)

    def test_one_world_left(self):
        for many in range(1, 6):
            for world in range(2 ** many):
                standing = [letter if world // 2 ** k % 2 else ("not", letter)
                            for k, letter in enumerate(LETTER[:many])]
                self.assertEqual(room_of(many, standing), [world])

    def test_no_world_left(self):
        for many in range(1, 6):
            self.assertRaises(NoWorld, room_of, many, [NEVER_TRUE])
            self.assertRaises(NoWorld, room_of, many, [A, ("not", A)])
        self.assertRaises(NoWorld, room_of, 2, [("or", A, B), ("not", A), ("if", B, A)])

    def test_each_strange_letter(self):
        for many in range(1, 6):
            for number in range(5):
                standing = [("if", ("let", number), A)]
                if number < many:
                    self.assertTrue(room_of(many, standing))
                else:
                    self.assertRaises(StrangeLetter, room_of, many, standing)

    def test_a_strange_sentence_at_any_place(self):
        strange = ("or", A, ("not", C))
        self.assertRaises(StrangeLetter, room_of, 2, [strange])
        self.assertRaises(StrangeLetter, room_of, 2, [strange, A, B])
        self.assertRaises(StrangeLetter, room_of, 2, [A, strange, B])
        self.assertRaises(StrangeLetter, room_of, 2, [A, B, strange])
        self.assertEqual(room_of(3, [A, B, strange]), [3, 7])

    def test_a_letter_that_changes_no_truth_is_strange_too(self):
        self.assertRaises(StrangeLetter, room_of, 2, [("or", A, ("and", E, ("not", E)))])

    def test_strange_goes_ahead_of_no_world(self):
        strange = ("or", C, A)
        self.assertRaises(StrangeLetter, room_of, 2, [strange, A, ("not", A)])
        self.assertRaises(StrangeLetter, room_of, 2, [A, ("not", A), strange])
        self.assertRaises(StrangeLetter, room_of, 2, [NEVER_TRUE, strange])
        self.assertRaises(StrangeLetter, room_of, 2, [("and", D, ("not", D))])
        self.assertRaises(StrangeLetter, room_of, 2, [strange, NEVER_TRUE])

    def test_deep_ones(self):
        self.assertEqual(room_of(5, [left_chain(60)]), worlds_of(left_chain(60), ALL))
        self.assertEqual(room_of(1, [read("-" * 4000 + "a")]), [1])
        self.assertRaises(StrangeLetter, room_of, 1, [read("-" * 4000 + "b")])

    def test_what_is_handed_in_stays_and_what_is_told_is_the_askers(self):
        standing = [("or", A, B), ("not", C)]
        told = room_of(3, standing)
        told.append(9)
        self.assertEqual(standing, [("or", A, B), ("not", C)])
        self.assertEqual(room_of(3, standing), [1, 2, 3])
        told = room_of(3, [])
        told.clear()
        self.assertEqual(room_of(3, []), list(range(8)))
        self.assertRaises(NoWorld, room_of, 3, standing + [C])
        self.assertRaises(StrangeLetter, room_of, 2, standing)
        self.assertEqual(standing, [("or", A, B), ("not", C)])


class SentenceOf(unittest.TestCase):
    def holds(self, worlds, many):
        before = list(worlds)
        sentence = sentence_of(worlds, many)
        self.assertEqual(worlds, before)
        self.assertEqual([world for world in range(2 ** many) if slow_true(sentence, world)], worlds)
        self.assertTrue(all(0 <= letter < many for letter in letters(sentence)), shown(sentence))
        self.assertLessEqual(depth(sentence), 60)
        self.assertLessEqual(tuple_count(sentence), 2000)
        self.assertEqual(read(shown(sentence)), sentence)

    def test_every_row_of_one_to_three_letters(self):
        for many in (1, 2, 3):
            for row in rows_within(list(range(2 ** many))):
                self.holds(row, many)

    def test_none_and_all(self):
        for many in range(1, 6):
            self.holds([], many)
            self.holds(list(range(2 ** many)), many)

    def test_one_world_and_all_but_one(self):
        for many in (4, 5):
            for world in range(2 ** many):
                self.holds([world], many)
                self.holds([other for other in range(2 ** many) if other != world], many)

    def test_two_worlds(self):
        for row in rows_within(list(range(16))):
            if len(row) == 2:
                self.holds(row, 4)

    def test_rows_of_sentences(self):
        for sentence in LETTER + some_sentences("rows", 200, 4):
            self.holds([world for world in ALL if slow_true(sentence, world)], 5)

    def test_rows_that_no_letter_can_be_left_out_of(self):
        for many in (4, 5):
            for odd in (0, 1):
                self.holds([world for world in range(2 ** many) if bin(world).count("1") % 2 == odd], many)

    def test_even_the_longest_are_small_enough_for_a_goal(self):
        for odd in (0, 1):
            sentence = sentence_of([world for world in ALL if bin(world).count("1") % 2 == odd], 5)
            self.assertLessEqual(depth(sentence), 30)
            self.assertLessEqual(tuple_count(sentence), 200)

    def test_whoever_changes_the_row_changes_no_sentence(self):
        row = [1, 2]
        sentence = sentence_of(row, 2)
        row.append(3)
        self.assertEqual([world for world in range(4) if slow_true(sentence, world)], [1, 2])
        self.assertEqual(sentence_of([1, 2], 2), sentence)

    def test_by_chance(self):
        for many in (4, 5):
            for row in some_rows("sentence_of", 400, list(range(2 ** many))):
                self.holds(row, many)


if __name__ == "__main__":
    unittest.main()
