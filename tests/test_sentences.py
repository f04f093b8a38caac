import copy
import unittest

from holdtalk.sentences import depth, letters, shown
from tests.helper import (JOINED, LETTER, SIGN_OF, left_chain, not_chain, right_chain, short_forms, some_sentences,
                          tuple_count, wide_sentence)

A, B, C, D, E = LETTER


def slow_depth(sentence):
    if sentence[0] == "let":
        return 0
    return 1 + max(slow_depth(part) for part in sentence[1:])


def slow_letters(sentence):
    if sentence[0] == "let":
        return {sentence[1]}
    return set().union(*[slow_letters(part) for part in sentence[1:]])


def slow_shown(sentence):
    if sentence[0] == "let":
        return "abcde"[sentence[1]]
    if sentence[0] == "not":
        return "-" + slow_shown(sentence[1])
    return "(" + slow_shown(sentence[1]) + SIGN_OF[sentence[0]] + slow_shown(sentence[2]) + ")"


class Depth(unittest.TestCase):
    def test_letters_are_nought_deep(self):
        for letter in LETTER:
            self.assertEqual(depth(letter), 0)
            self.assertIs(type(depth(letter)), int)

    def test_each_other_kind_is_one_deeper(self):
        self.assertEqual(depth(("not", A)), 1)
        for kind in JOINED:
            self.assertEqual(depth((kind, A, B)), 1)

    def test_the_deepest_part_counts(self):
        deep = ("not", ("not", A))
        for kind in JOINED:
            self.assertEqual(depth((kind, deep, B)), 3)
            self.assertEqual(depth((kind, B, deep)), 3)
            self.assertEqual(depth((kind, deep, deep)), 3)
            self.assertEqual(depth((kind, deep, ("not", A))), 3)
            self.assertEqual(depth((kind, ("not", A), deep)), 3)
            self.assertEqual(depth(("not", (kind, A, B))), 2)

    def test_every_depth_up_to_sixty(self):
        for deep in range(61):
            self.assertEqual(depth(left_chain(deep)), deep)
            self.assertEqual(depth(right_chain(deep)), deep)
            self.assertEqual(depth(not_chain(deep)), deep)

    def test_somewhat_and_far_beyond_sixty(self):
        for deep in (61, 80, 200, 3000):
            self.assertEqual(depth(left_chain(deep)), deep)
            self.assertEqual(depth(right_chain(deep)), deep)
            self.assertEqual(depth(not_chain(deep)), deep)

    def test_widest_sentences(self):
        for tuples in (199, 200, 1999, 2000):
            sentence = wide_sentence(tuples)
            self.assertEqual(tuple_count(sentence), tuples)
            self.assertEqual(depth(sentence), slow_depth(sentence))

    def test_against_a_slow_reckoning(self):
        for sentence in some_sentences("depth", 300, 7):
            self.assertEqual(depth(sentence), slow_depth(sentence))


class Letters(unittest.TestCase):
    def test_one_letter(self):
        for k in range(5):
            self.assertEqual(letters(("let", k)), [k])
            self.assertEqual(letters(("not", ("not", ("let", k)))), [k])

    def test_they_rise_whatever_their_order(self):
        self.assertEqual(letters(("and", E, A)), [0, 4])
        self.assertEqual(letters(("if", D, ("or", B, C))), [1, 2, 3])
        self.assertEqual(letters(("same", ("same", ("same", ("same", E, D), C), B), A)), [0, 1, 2, 3, 4])

    def test_each_once_however_often_it_stands_there(self):
        for kind in JOINED:
            self.assertEqual(letters((kind, C, C)), [2])
            self.assertEqual(letters((kind, (kind, E, B), ("not", (kind, B, E)))), [1, 4])

    def test_unlike_depths(self):
        self.assertEqual(letters(("and", not_chain(5), ("or", A, E))), [0, 3, 4])

    def test_it_is_a_list_of_whole_numbers(self):
        told = letters(("and", B, ("not", A)))
        self.assertIs(type(told), list)
        self.assertEqual([type(k) for k in told], [int, int])

    def test_the_list_told_may_be_changed(self):
        sentence = ("and", C, ("or", A, E))
        told = letters(sentence)
        told.append(9)
        told[0] = 7
        self.assertEqual(letters(sentence), [0, 2, 4])
        self.assertEqual(sentence, ("and", ("let", 2), ("or", ("let", 0), ("let", 4))))

    def test_deep_and_wide_ones(self):
        for sentence in (left_chain(30), left_chain(60), right_chain(60), wide_sentence(200), wide_sentence(2000)):
            self.assertEqual(letters(sentence), [0, 1, 2, 3, 4])
        self.assertEqual(letters(not_chain(60)), [3])
        self.assertEqual(letters(not_chain(3000)), [3])

    def test_against_a_slow_reckoning(self):
        for sentence in some_sentences("letters", 300, 6):
            self.assertEqual(letters(sentence), sorted(slow_letters(sentence)))


class Shown(unittest.TestCase):
    def test_letters(self):
        self.assertEqual([shown(letter) for letter in LETTER], ["a", "b", "c", "d", "e"])

    def test_not(self):
        self.assertEqual(shown(("not", A)), "-a")
        self.assertEqual(shown(("not", ("not", ("not", E)))), "---e")

    def test_each_joint(self):
        self.assertEqual(shown(("and", A, B)), "(a&b)")
        self.assertEqual(shown(("or", A, B)), "(a|b)")
        self.assertEqual(shown(("if", A, B)), "(a>b)")
        self.assertEqual(shown(("same", A, B)), "(a=b)")
        self.assertEqual(shown(("if", B, A)), "(b>a)")

    def test_nested_ones(self):
        self.assertEqual(shown(("not", ("and", A, ("not", B)))), "-(a&-b)")
        self.assertEqual(shown(("or", ("if", A, B), ("same", C, ("and", D, E)))), "((a>b)|(c=(d&e)))")
        self.assertEqual(shown(("if", ("not", ("or", A, A)), ("not", ("not", C)))), "(-(a|a)>--c)")

    def test_all_short_ones(self):
        for text, sentence in short_forms(7).items():
            self.assertEqual(shown(sentence), text)

    def test_no_blank_and_one_form_each(self):
        chains = [left_chain(30), left_chain(60), right_chain(30), right_chain(60), not_chain(60)]
        wide = [wide_sentence(200), wide_sentence(2000)]
        for sentence in chains + wide + some_sentences("shown", 300, 6):
            text = shown(sentence)
            self.assertEqual(text, slow_shown(sentence))
            self.assertNotIn(" ", text)

    def test_far_beyond_sixty(self):
        self.assertEqual(shown(not_chain(3000)), "-" * 3000 + "d")
        text = shown(right_chain(3000))
        self.assertEqual((text.count("("), text.count(")"), len(text)), (3000, 3000, 12001))


class NothingIsChanged(unittest.TestCase):
    def test_sentences_stay_as_they_were(self):
        for sentence in [left_chain(30), right_chain(60), wide_sentence(2000)] + some_sentences("kept", 50, 6):
            before = copy.deepcopy(sentence)
            first = (depth(sentence), letters(sentence), shown(sentence))
            second = (depth(sentence), letters(sentence), shown(sentence))
            self.assertEqual(first, second)
            self.assertEqual(sentence, before)


if __name__ == "__main__":
    unittest.main()
