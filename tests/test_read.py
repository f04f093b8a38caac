import itertools
import random
import unittest

from holdtalk.errors import NoSentence
from holdtalk.sentences import depth, read, shown
from tests.helper import (JOINED, LETTER, SIGNS, left_chain, not_chain, plain_signs, right_chain, short_beginnings,
                          short_forms, slow_read, some_sentences, tuple_count, wide_sentence)

A, B, C, D, E = LETTER


def told(text):
    """What `read` tells of a text, in the form of the slow reader."""
    try:
        return ("read", read(text))
    except NoSentence as error:
        return ("refused", error.at)


class ReadBack(unittest.TestCase):
    def same_back(self, sentence):
        self.assertEqual(read(shown(sentence)), sentence)

    def test_letters(self):
        self.assertEqual([read(sign) for sign in "abcde"], LETTER)

    def test_it_is_tuples_texts_and_whole_numbers(self):
        sentence = read("(a&-b)")
        self.assertIs(type(sentence), tuple)
        self.assertEqual([type(part) for part in sentence], [str, tuple, tuple])
        self.assertEqual([type(part) for part in sentence[1]], [str, int])

    def test_each_kind(self):
        self.assertEqual(read("-a"), ("not", A))
        self.assertEqual(read("(a&b)"), ("and", A, B))
        self.assertEqual(read("(a|b)"), ("or", A, B))
        self.assertEqual(read("(a>b)"), ("if", A, B))
        self.assertEqual(read("(b=a)"), ("same", B, A))

    def test_nested(self):
        self.assertEqual(read("-(a&-b)"), ("not", ("and", A, ("not", B))))
        self.assertEqual(read("--(--a|-(b>c))"),
                         ("not", ("not", ("or", ("not", ("not", A)), ("not", ("if", B, C))))))
        self.assertEqual(read("((a>b)|(c=(d&e)))"), ("or", ("if", A, B), ("same", C, ("and", D, E))))

    def test_not_binds_what_is_straight_behind_it(self):
        self.assertEqual(read("(-a&b)"), ("and", ("not", A), B))
        self.assertEqual(read("-(a&b)"), ("not", ("and", A, B)))
        self.assertEqual(read("(-(a&b)>-c)"), ("if", ("not", ("and", A, B)), ("not", C)))

    def test_all_short_forms(self):
        for text, sentence in short_forms(7).items():
            self.assertEqual(read(text), sentence)

    def test_every_depth_up_to_sixty(self):
        for deep in range(61):
            self.same_back(left_chain(deep))
            self.same_back(right_chain(deep))
            self.same_back(not_chain(deep))

    def test_deep_on_both_sides(self):
        for kind in JOINED:
            self.same_back((kind, left_chain(29), right_chain(29)))
            self.same_back((kind, not_chain(59), left_chain(59)))
            self.same_back(("not", (kind, right_chain(58), not_chain(58))))

    def test_widest_sentences(self):
        for tuples in (199, 200, 1999, 2000):
            sentence = wide_sentence(tuples)
            self.assertEqual(tuple_count(sentence), tuples)
            self.same_back(sentence)

    def test_deep_and_wide_at_once(self):
        sentence = left_chain(30)
        while tuple_count(sentence) < 150:
            sentence = ("and", sentence, right_chain(depth(sentence)))
        self.same_back(sentence)

    def test_sentences_by_chance(self):
        for sentence in some_sentences("read", 500, 8):
            self.same_back(sentence)

    def test_a_text_may_be_deeper_than_sixty(self):
        for deep in (59, 61, 79, 200, 3000):
            self.assertEqual(depth(read("-" * deep + "a")), deep)
            self.assertEqual(depth(read("(a>" * deep + "b" + ")" * deep)), deep)
            self.assertEqual(depth(read("(" * deep + "b" + "=a)" * deep)), deep)


class Blanks(unittest.TestCase):
    TEXTS = ("a", "e", "-b", "--c", "(a&b)", "-(d|-e)", "((a>b)=-(c&d))")

    def test_ahead_and_behind(self):
        for text in self.TEXTS:
            for blanks in (" ", "  ", " " * 50):
                self.assertEqual(read(blanks + text), read(text))
                self.assertEqual(read(text + blanks), read(text))
                self.assertEqual(read(blanks + text + blanks), read(text))

    def test_between_any_two_signs(self):
        for text in self.TEXTS:
            for at in range(len(text) + 1):
                for blanks in (" ", "   ", " " * 40):
                    self.assertEqual(read(text[:at] + blanks + text[at:]), read(text))

    def test_everywhere_at_once(self):
        for text in self.TEXTS:
            self.assertEqual(read(" ".join(text)), read(text))
            self.assertEqual(read("  " + "   ".join(text) + "    "), read(text))

    def test_by_chance_in_deep_texts(self):
        chance = random.Random("blanks")
        for sentence in [left_chain(60), right_chain(60), not_chain(60)] + some_sentences("blanks", 50, 6):
            text = "".join(" " * chance.randrange(3) + sign for sign in shown(sentence)) + "  "
            self.assertEqual(read(text), sentence)


class Refused(unittest.TestCase):
    def refused_at(self, text, at):
        with self.assertRaises(NoSentence) as caught:
            read(text)
        self.assertEqual(caught.exception.at, at, text)
        self.assertIs(type(caught.exception.at), int)

    def test_empty_text(self):
        self.refused_at("", 0)

    def test_blanks_alone(self):
        for many in (1, 2, 7, 60):
            self.refused_at(" " * many, many)

    def test_cut_off_behind(self):
        for text in ("-a", "(a&b)", "-(d|-e)", "((a>b)=-(c&d))", shown(left_chain(30)), shown(right_chain(60))):
            for size in range(len(text)):
                if text[:size] != text:
                    self.refused_at(text[:size], size)

    def test_cut_off_with_blanks_behind(self):
        self.refused_at("-  ", 3)
        self.refused_at("(a & ", 5)
        self.refused_at(" (a&b  ", 7)

    def test_wrong_sign_at_the_beginning(self):
        for sign in "&|>=)":
            self.refused_at(sign, 0)
            self.refused_at(sign + "a", 0)
            self.refused_at(sign + "(a&b)", 0)

    def test_wrong_sign_in_the_middle(self):
        self.refused_at("-&a", 1)
        self.refused_at("-)", 1)
        self.refused_at("()", 1)
        self.refused_at("(&a)", 1)
        self.refused_at("(a-b)", 2)
        self.refused_at("(a(b&c))", 2)
        self.refused_at("(ab)", 2)
        self.refused_at("(a&)", 3)
        self.refused_at("(a&b&c)", 4)
        self.refused_at("(a&b-c)", 4)
        self.refused_at("(a&bc)", 4)
        self.refused_at("(a&b(", 4)
        self.refused_at("((a&b)c)", 6)

    def test_anything_behind_a_whole_sentence(self):
        for text in ("a", "-b", "--b", "(a&b)", "-(a=b)"):
            for sign in SIGNS.strip():
                self.refused_at(text + sign, len(text))
                self.refused_at(text + "  " + sign, len(text) + 2)

    def test_letter_beyond_e(self):
        for sign in "fghijklmnopqrstuvwxyzABCDEFXYZ":
            self.refused_at(sign, 0)
            self.refused_at("-" + sign, 1)
            self.refused_at("(a&" + sign + ")", 3)

    def test_joint_without_brackets(self):
        for sign in "&|>=":
            self.refused_at("a" + sign + "b", 1)
            self.refused_at("-a" + sign + "b", 2)
            self.refused_at("(a&b)" + sign + "c", 5)

    def test_brackets_round_a_letter_or_a_not(self):
        self.refused_at("(a)", 2)
        self.refused_at("(-a)", 3)
        self.refused_at("(--a)", 4)
        self.refused_at("((a&b))", 6)
        self.refused_at("(-(a&b))", 7)
        self.refused_at("-(a)", 3)

    def test_missing_or_doubled_joint(self):
        for sign in "&|>=":
            self.refused_at("(a" + sign + sign + "b)", 3)
        self.refused_at("(a&|b)", 3)
        self.refused_at("(a->b)", 2)
        self.refused_at("(a b)", 3)

    def test_missing_or_doubled_bracket(self):
        self.refused_at("(a&b", 4)
        self.refused_at("a&b)", 1)
        self.refused_at("((a&b)", 6)
        self.refused_at("(a&b))", 5)
        self.refused_at("((a&b)|c))", 9)
        self.refused_at("(a&(b|c)", 8)

    def test_signs_that_are_none_of_a_sentence(self):
        for code in range(ord(" "), ord("~") + 1):
            sign = chr(code)
            if sign in SIGNS:
                continue
            self.refused_at(sign, 0)
            self.refused_at("-" + sign + "a", 1)
            self.refused_at("(" + sign + "&b)", 1)
            self.refused_at("(a" + sign + "b)", 2)
            self.refused_at("(a&" + sign, 3)
            self.refused_at("(a&b" + sign, 4)
            self.refused_at("a" + sign, 1)

    def test_blanks_count_in_the_place(self):
        self.refused_at("  )", 2)
        self.refused_at("   x", 3)
        self.refused_at(" a b", 3)
        self.refused_at("( a   )", 6)
        self.refused_at(" ( a & b  & c )", 10)
        self.refused_at("-  -  ", 6)

    def test_only_the_first_wrong_sign_counts(self):
        self.refused_at("(a&x)y)", 3)
        self.refused_at("a))", 1)
        self.refused_at(")(", 0)

    def test_deep_texts(self):
        for deep in (30, 60, 79, 3000):
            self.refused_at("-" * deep, deep)
            self.refused_at("(" * deep, deep)
            self.refused_at("(" * deep + "a" + ")" * deep, deep + 1)
            self.refused_at("(a&" * deep + "b" + ")" * (deep - 1), 4 * deep)
            self.refused_at("(a&" * deep + "b" + ")" * (deep + 1), 4 * deep + 1)

    def test_a_refusal_leaves_nothing_behind(self):
        before = read("(a&-b)")
        for text in ("((", "-", "(a&", "x"):
            with self.assertRaises(NoSentence):
                read(text)
            self.assertEqual(read("(a&-b)"), before)
            self.refused_at("", 0)
            self.refused_at(")", 0)


class AgainstSlowReaders(unittest.TestCase):
    LONGEST = 5

    def test_all_short_texts(self):
        forms = short_forms(self.LONGEST)
        beginnings = short_beginnings(self.LONGEST)
        for size in range(self.LONGEST + 1):
            for signs in itertools.product(SIGNS, repeat=size):
                text = "".join(signs)
                bare = text.replace(" ", "")
                if bare in forms:
                    right = ("read", forms[bare])
                else:
                    wrong = [at for at in range(size) if plain_signs(text[:at + 1]) not in beginnings]
                    right = ("refused", wrong[0] if wrong else size)
                if told(text) != right:
                    self.fail((text, told(text), right))

    def test_all_somewhat_longer_texts_of_few_signs(self):
        for size in range(9):
            for signs in itertools.product("a-(&)", repeat=size):
                text = "".join(signs)
                if told(text) != slow_read(text):
                    self.fail((text, told(text), slow_read(text)))

    def test_long_texts_with_one_sign_wrong(self):
        chance = random.Random("wrong signs")
        for sentence in some_sentences("wrong signs", 400, 6) + [left_chain(30), right_chain(60), not_chain(60)]:
            text = shown(sentence)
            for k in range(10):
                at = chance.randrange(len(text) + 1)
                sign = chance.choice(SIGNS + "fz1~")
                for changed in (text[:at] + sign + text[at:], text[:at] + text[at + 1:],
                                text[:at] + sign + text[at + 1:], text[:at] + " " + sign + " " + text[at:]):
                    self.assertEqual(told(changed), slow_read(changed), changed)


if __name__ == "__main__":
    unittest.main()
