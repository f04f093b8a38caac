import unittest

from holdtalk.lines import line_of, mark_of, mark_word, words_of


class Lines(unittest.TestCase):
    def test_words_are_parted_by_one_blank(self):
        self.assertEqual(line_of(["fork", "a", "bo"]), "fork a bo")
        self.assertEqual(line_of(["house"]), "house")

    def test_a_line_and_back(self):
        for line in ("house 2", "say a (a&b) grant", "", " ", "a  b", " a", "b "):
            self.assertEqual(line_of(words_of(line)), line)
        self.assertEqual(words_of("say a -b deny"), ["say", "a", "-b", "deny"])
        self.assertEqual(words_of("a  b "), ["a", "", "b", ""])
        self.assertEqual(words_of(""), [""])

    def test_marks(self):
        self.assertEqual([mark_word(mark) for mark in (True, False, None)], ["yes", "no", "unknown"])
        for mark in (True, False, None):
            self.assertIs(mark_of(mark_word(mark)), mark)
        self.assertIsNone(mark_of("maybe"))


if __name__ == "__main__":
    unittest.main()
