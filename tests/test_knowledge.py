import itertools
import unittest

from holdtalk.knowledge import plain, seen_by
from tests.helper import POWERS, rows_within, some_rows

ALL = list(range(32))
MARKS = (None, False, True)


def slow_seen(room, marks):
    """The worlds that no mark speaks against."""
    against = [world for world in room for k, mark in enumerate(marks)
               if (mark is True and world // POWERS[k] % 2 == 0) or (mark is False and world // POWERS[k] % 2 == 1)]
    return [world for world in room if world not in against]


class SeenBy(unittest.TestCase):
    def test_by_hand(self):
        self.assertEqual(seen_by([0, 1], [None]), [0, 1])
        self.assertEqual(seen_by([0, 1], [True]), [1])
        self.assertEqual(seen_by([0, 1], [False]), [0])
        self.assertEqual(seen_by([0, 1, 2, 3], [None, True]), [2, 3])
        self.assertEqual(seen_by([0, 1, 2, 3], [False, None]), [0, 2])
        self.assertEqual(seen_by([0, 1, 2, 3], [True, False]), [1])
        self.assertEqual(seen_by([1, 2, 3], [None, True]), [2, 3])

    def test_nothing_known_shows_the_whole_room(self):
        for many in range(1, 6):
            room = list(range(2 ** many))
            self.assertEqual(seen_by(room, [None] * many), room)
            self.assertEqual(seen_by(room[1::2], [None] * many), room[1::2])

    def test_all_known_shows_one_world_at_most(self):
        for world in ALL:
            marks = [world // power % 2 == 1 for power in POWERS]
            self.assertEqual(seen_by(ALL, marks), [world])
            self.assertEqual(seen_by([world], marks), [world])
            self.assertEqual(seen_by([other for other in ALL if other != world], marks), [])

    def test_none_seen(self):
        self.assertEqual(seen_by([0, 2], [True, None]), [])
        self.assertEqual(seen_by([1], [False]), [])
        self.assertEqual(seen_by([0, 1, 2], [True, True]), [])
        self.assertEqual(seen_by([5], [True, True, True]), [])

    def test_every_marks_over_every_room_of_one_to_three_letters(self):
        for many in (1, 2, 3):
            for room in rows_within(list(range(2 ** many)))[1:]:
                for marks in itertools.product(MARKS, repeat=many):
                    self.assertEqual(seen_by(room, list(marks)), slow_seen(room, marks), (room, marks))

    def test_every_marks_of_four_and_five_letters(self):
        for many in (4, 5):
            rooms = [list(range(2 ** many))] + some_rows("rooms", 4, list(range(2 ** many)))
            for room, marks in itertools.product(rooms, itertools.product(MARKS, repeat=many)):
                told = seen_by(room, list(marks))
                self.assertEqual(told, slow_seen(room, marks), (room, marks))
                self.assertEqual(told, sorted(told))

    def test_room_and_marks_stay_and_the_list_told_is_the_askers(self):
        for marks in ([None, None], [None, True], [False, True]):
            room, kept = [0, 1, 2, 3], list(marks)
            told = seen_by(room, marks)
            self.assertIs(type(told), list)
            told.append(9)
            told[0] = 8
            self.assertEqual((room, marks), ([0, 1, 2, 3], kept))
            told = seen_by(room, marks)
            before = list(told)
            room.clear()
            marks.clear()
            self.assertEqual(told, before)


class Plain(unittest.TestCase):
    def test_all_seen_worlds_in_the_row(self):
        self.assertEqual(plain([2], [2]), "grant")
        self.assertEqual(plain([1, 3], [1, 3]), "grant")

    def test_none(self):
        self.assertEqual(plain([1, 3], []), "deny")
        self.assertEqual(plain([0], [1]), "deny")

    def test_some(self):
        self.assertEqual(plain([1, 3], [1]), "doubt")
        self.assertEqual(plain([1, 3], [3]), "doubt")
        self.assertEqual(plain([0, 1, 2, 3], [0, 1, 2]), "doubt")

    def test_worlds_in_the_row_that_are_not_seen(self):
        self.assertEqual(plain([1, 3], [0, 1, 2, 3]), "grant")
        self.assertEqual(plain([1, 3], [0, 2]), "deny")
        self.assertEqual(plain([1, 3], [0, 2, 3]), "doubt")

    def test_every_two_rows_of_three_letters(self):
        rows = rows_within([0, 1, 3, 4, 6, 7])
        for seen, worlds in itertools.product(rows[1:], rows):
            many = len([world for world in seen if world in worlds])
            slow = "grant" if many == len(seen) else "deny" if many == 0 else "doubt"
            self.assertEqual(plain(seen, worlds), slow)

    def test_all_worlds_of_five_letters(self):
        self.assertEqual(plain(ALL, ALL), "grant")
        self.assertEqual(plain(ALL, []), "deny")
        self.assertEqual(plain(ALL, ALL[1:]), "doubt")
        self.assertEqual(plain(ALL, [31]), "doubt")

    def test_what_is_handed_in_stays(self):
        for worlds in ([1, 2, 3], [0], [1, 2]):
            seen, before = [1, 3], list(worlds)
            plain(seen, worlds)
            self.assertEqual((seen, worlds), ([1, 3], before))


if __name__ == "__main__":
    unittest.main()
