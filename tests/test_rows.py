import itertools
import unittest

from holdtalk.rows import all_within, in_any, in_both, in_first_only, some_within

ROWS = [list(row) for size in range(5) for row in itertools.permutations((0, 3, 4, 9), size)]


class Rows(unittest.TestCase):
    def test_ordinary_rows(self):
        self.assertEqual(in_both([0, 2, 5, 31], [1, 2, 31]), [2, 31])
        self.assertEqual(in_first_only([0, 2, 5, 31], [1, 2, 31]), [0, 5])
        self.assertEqual(in_any([[0, 2, 5], [1, 2], [31]]), [0, 1, 2, 5, 31])
        self.assertIs(all_within([2, 5], [0, 2, 5]), True)
        self.assertIs(all_within([2, 6], [0, 2, 5]), False)
        self.assertIs(some_within([2, 6], [0, 2, 5]), True)
        self.assertIs(some_within([3, 6], [0, 2, 5]), False)

    def test_empty_rows(self):
        self.assertEqual(in_both([], [1]), [])
        self.assertEqual(in_both([1], []), [])
        self.assertEqual(in_first_only([], [1]), [])
        self.assertEqual(in_first_only([2, 1], []), [1, 2])
        self.assertEqual(in_any([]), [])
        self.assertEqual(in_any([[], []]), [])
        self.assertIs(all_within([], []), True)
        self.assertIs(all_within([], [1]), True)
        self.assertIs(all_within([1], []), False)
        self.assertIs(some_within([], [1]), False)
        self.assertIs(some_within([1], []), False)

    def test_what_is_told_rises_whatever_order_is_handed_in(self):
        for one, other in itertools.product(ROWS, [[], [4, 0], [9, 1, 3], [3, 0, 9, 4]]):
            self.assertEqual(in_both(one, other), [w for w in range(10) if w in one and w in other])
            self.assertEqual(in_first_only(one, other), [w for w in range(10) if w in one and w not in other])
            self.assertEqual(in_any([one, other]), [w for w in range(10) if w in one or w in other])
            self.assertIs(all_within(one, other), all(w in other for w in one))
            self.assertIs(some_within(one, other), any(w in other for w in one))

    def test_all_worlds_of_five_letters(self):
        worlds = list(range(31, -1, -1))
        self.assertEqual(in_both(worlds, worlds), list(range(32)))
        self.assertEqual(in_first_only(worlds, [0, 31]), list(range(1, 31)))
        self.assertEqual(in_any([worlds[:16], worlds[16:], [8]]), list(range(32)))

    def test_nothing_handed_in_is_changed(self):
        one, other = [5, 1, 3], [3, 9, 5]
        rows = [one, other]
        for told in (in_both(one, other), in_first_only(one, other), in_any(rows), in_any([one]), in_both(one, one)):
            self.assertIs(type(told), list)
            told.append(77)
            told[0] = 66
        all_within(one, other)
        some_within(one, other)
        self.assertEqual((one, other), ([5, 1, 3], [3, 9, 5]))
        self.assertEqual(rows, [[5, 1, 3], [3, 9, 5]])
        self.assertEqual(in_any(rows), [1, 3, 5, 9])


if __name__ == "__main__":
    unittest.main()
