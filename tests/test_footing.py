import itertools
import unittest

from holdtalk.errors import BadWord, NoStanding
from holdtalk.footing import base_of, missed_side, sides_of, stands
from holdtalk.sentences import read
from tests.helper import ALWAYS_TRUE, LETTER, NEVER_TRUE, left_chain, rows_within, slow_true, some_rows, some_sentences

A, B, C, D, E = LETTER
ALL = list(range(32))
NO_KINDS = ("", " ", "elder", "newer", "grant", "deny", "True", "False", "true ", " true", "tru", "truefalse",
            "doubted", "DOUBT", "a", "yes", "unknown", "let", "not")


class SidesOf(unittest.TestCase):
    def test_each_kind(self):
        room = [0, 1, 2, 3]
        self.assertEqual(sides_of(room, "true", A), [[1, 3]])
        self.assertEqual(sides_of(room, "false", A), [[0, 2]])
        self.assertEqual(sides_of(room, "doubt", A), [[1, 3], [0, 2]])
        self.assertEqual(sides_of(room, "doubt", ("not", A)), [[0, 2], [1, 3]])

    def test_over_a_part_of_the_worlds(self):
        room = [0, 2, 3]
        self.assertEqual(sides_of(room, "true", B), [[2, 3]])
        self.assertEqual(sides_of(room, "false", B), [[0]])
        self.assertEqual(sides_of(room, "doubt", B), [[2, 3], [0]])

    def test_one_side_that_is_the_whole_room(self):
        for room in ([0], [1, 3], [0, 1, 2, 3], ALL):
            self.assertEqual(sides_of(room, "true", ALWAYS_TRUE), [room])
            self.assertEqual(sides_of(room, "false", NEVER_TRUE), [room])

    def test_against_a_slow_reckoning(self):
        rooms = [room or [0] for room in some_rows("sides", 300, ALL)]
        for room, sentence in zip(rooms, some_sentences("sides", 300, 4)):
            inside = [world for world in room if slow_true(sentence, world)]
            outside = [world for world in room if not slow_true(sentence, world)]
            for kind, sides in (("true", [inside]), ("false", [outside]), ("doubt", [inside, outside])):
                if [] in sides:
                    self.assertRaises(NoStanding, sides_of, room, kind, sentence)
                else:
                    told = sides_of(room, kind, sentence)
                    self.assertEqual(told, sides)
                    self.assertEqual(told, [sorted(side) for side in told])

    def test_an_empty_side_of_each_sort(self):
        for room in ([0], [1, 3], [0, 1, 2, 3], ALL):
            self.assertRaises(NoStanding, sides_of, room, "true", NEVER_TRUE)
            self.assertRaises(NoStanding, sides_of, room, "false", ALWAYS_TRUE)
            self.assertRaises(NoStanding, sides_of, room, "doubt", NEVER_TRUE)
            self.assertRaises(NoStanding, sides_of, room, "doubt", ALWAYS_TRUE)

    def test_a_side_that_is_empty_in_this_room_alone(self):
        self.assertRaises(NoStanding, sides_of, [0, 2], "true", A)
        self.assertRaises(NoStanding, sides_of, [1, 3], "false", A)
        self.assertRaises(NoStanding, sides_of, [0, 2], "doubt", A)
        self.assertRaises(NoStanding, sides_of, [1, 3], "doubt", A)
        self.assertEqual(sides_of([0, 2], "false", A), [[0, 2]])

    def test_a_word_that_is_no_kind(self):
        for word in NO_KINDS:
            self.assertRaises(BadWord, sides_of, [0, 1], word, A)

    def test_a_bad_word_goes_ahead_of_an_empty_side(self):
        for word in NO_KINDS:
            self.assertRaises(BadWord, sides_of, [0, 1], word, NEVER_TRUE)
            self.assertRaises(BadWord, sides_of, [0, 1], word, ALWAYS_TRUE)

    def test_deep_ones(self):
        sentence = left_chain(60)
        inside = [world for world in ALL if slow_true(sentence, world)]
        self.assertEqual(sides_of(ALL, "doubt", sentence), [inside, sorted(set(ALL) - set(inside))])
        self.assertEqual(sides_of([0, 1], "true", read("-" * 4001 + "a")), [[0]])

    def test_the_room_stays_and_the_sides_told_are_the_askers(self):
        for kind, sentence in (("true", A), ("false", A), ("doubt", A), ("true", ALWAYS_TRUE), ("false", NEVER_TRUE)):
            room = [0, 1, 2, 3]
            first = sides_of(room, kind, sentence)
            kept = [list(side) for side in first]
            for side in first:
                self.assertIs(type(side), list)
                side.append(9)
                side[0] = 8
            first.append([])
            self.assertEqual(room, [0, 1, 2, 3])
            second = sides_of(room, kind, sentence)
            self.assertEqual(second, kept)
            room.clear()
            self.assertEqual(second, kept)

    def test_the_room_stays_where_a_footing_is_refused(self):
        room = [0, 1, 2, 3]
        self.assertRaises(BadWord, sides_of, room, "elder", A)
        self.assertRaises(NoStanding, sides_of, room, "doubt", NEVER_TRUE)
        self.assertEqual(room, [0, 1, 2, 3])


class BaseOf(unittest.TestCase):
    def test_one_side(self):
        self.assertEqual(base_of([[2]]), [2])
        self.assertEqual(base_of([[1, 3, 31]]), [1, 3, 31])

    def test_two_sides(self):
        self.assertEqual(base_of([[1, 3], [0, 2]]), [0, 1, 2, 3])
        self.assertEqual(base_of([[3], [1]]), [1, 3])
        self.assertEqual(base_of([[0, 31], [5, 16, 17]]), [0, 5, 16, 17, 31])

    def test_all_sides_of_a_small_room(self):
        room = [0, 3, 4, 6, 9, 12]
        for row in rows_within(room)[1:-1]:
            other = [world for world in room if world not in row]
            self.assertEqual(base_of([row]), row)
            self.assertEqual(base_of([row, other]), room)

    def test_what_is_handed_in_stays_and_what_is_told_is_the_askers(self):
        for sides in ([[1, 3]], [[1, 3], [0, 2]]):
            kept = [list(side) for side in sides]
            told = base_of(sides)
            before = list(told)
            self.assertIs(type(told), list)
            told.append(9)
            told[0] = 8
            self.assertEqual(sides, kept)
            told = base_of(sides)
            sides[0].append(7)
            sides.clear()
            self.assertEqual(told, before)


class Stands(unittest.TestCase):
    def test_one_side(self):
        self.assertIs(stands([[1, 3]], [3]), True)
        self.assertIs(stands([[1, 3]], [0, 1, 2]), True)
        self.assertIs(stands([[1, 3]], [0, 2]), False)
        self.assertIs(stands([[1, 3]], []), False)

    def test_two_sides(self):
        sides = [[1, 3], [0, 2]]
        self.assertIs(stands(sides, [1, 2]), True)
        self.assertIs(stands(sides, [0, 1, 2, 3]), True)
        self.assertIs(stands(sides, [1, 3]), False)
        self.assertIs(stands(sides, [0, 2]), False)
        self.assertIs(stands(sides, [4, 5]), False)
        self.assertIs(stands(sides, []), False)

    def test_all_small_cases(self):
        room = [0, 1, 4, 5, 7]
        rows = rows_within(room)
        for inside, worlds in itertools.product(rows[1:], rows):
            outside = [world for world in room if world not in inside]
            of_one = any(world in inside for world in worlds)
            of_other = any(world in outside for world in worlds)
            self.assertIs(stands([inside], worlds), of_one)
            if outside:
                self.assertIs(stands([inside, outside], worlds), of_one and of_other)

    def test_the_first_side_that_is_missed(self):
        sides = [[1, 3], [0, 2]]
        told = [missed_side(sides, worlds) for worlds in ([0], [1], [], [4], [0, 1], [0, 1, 2, 3])]
        self.assertEqual(told, [0, 1, 0, 0, None, None])
        self.assertEqual([missed_side([[1, 3]], worlds) for worlds in ([0], [3], [])], [0, None, 0])

    def test_what_is_handed_in_stays(self):
        sides, worlds = [[1, 3], [0, 2]], [0, 3]
        stands(sides, worlds)
        stands(sides, [])
        self.assertEqual((sides, worlds), ([[1, 3], [0, 2]], [0, 3]))


if __name__ == "__main__":
    unittest.main()
