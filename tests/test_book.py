import random
import re
import unittest

from holdtalk.book import read_house
from holdtalk.errors import NoBook
from holdtalk.house import House
from holdtalk.sentences import read
from tests.helper import (EITHER, LETTER, TwinHouse, deed_by_chance, left_chain, looks_of_house, not_chain, refusal_of,
                          right_chain, slow_read, slow_shown, slow_true, standing_by_chance, wide_sentence)

A, B, C, D, E = LETTER
SENTENCE = "([^ ]+)"
NAME = "([a-z]{1,8})"
FORMS = [re.compile(form) for form in (
    "(learn) ([a-e]) (yes|no|unknown)", "(begin) " + NAME + " (elder|newer) (true|false|doubt) " + SENTENCE,
    "(say) " + NAME + " " + SENTENCE + " (grant|deny|doubt)", "(back|end|drop) " + NAME, "(fork) " + NAME + " " + NAME)]
LOG = ["house 3 (a>b)", "begin old elder true (b|c)", "begin new newer doubt (a&c)", "learn c yes", "say old b doubt",
       "say new c grant", "fork new other", "learn a no", "say other -b doubt", "say old a deny", "say old (b|c) grant",
       "back old", "end other", "drop new", "begin new newer false b", "learn a unknown"]


def slow_sentence(text):
    """The sentence of a shown form, or None."""
    word, told = slow_read(text)
    return told if word == "read" else None


def slow_first(line):
    """The twin of a new house with that first line, or None."""
    if not re.fullmatch("house [1-5]( [^ ]+)*", line):
        return None
    many, standing = int(line[6]), [slow_sentence(word) for word in line.split()[2:]]
    if None in standing or any(TwinHouse(many, []).strange(each) for each in standing):
        return None
    if not any(all(slow_true(each, world) for each in standing) for world in range(2 ** many)):
        return None
    return TwinHouse(many, standing)


def slow_deed(line):
    """The deed of a line, and the answer that the line has, or None; or None alone where it is no line."""
    found = [form.fullmatch(line) for form in FORMS if form.fullmatch(line)]
    if not found:
        return None
    word, *things = found[0].groups()
    if word == "learn":
        return (word, "abcde".index(things[0]), {"yes": True, "no": False, "unknown": None}[things[1]]), None
    if word == "begin":
        name, rule, kind, text = things
        return slow_sentence(text) and ((word, name, kind, slow_sentence(text), rule), None)
    if word == "say":
        return slow_sentence(things[1]) and ((word, things[0], slow_sentence(things[1])), things[2])
    return (word, *things), None


def slow_book(lines):
    """None where the lines are a house's log, else the number of the first line that makes them none."""
    twin = slow_first(lines[0]) if lines else None
    if twin is None:
        return 0
    for at, line in enumerate(lines[1:], 1):
        deed = slow_deed(line)
        if deed is None or twin.refusal(*deed[0]) is not None:
            return at
        told = twin.do(*deed[0])
        if deed[1] is not None and deed[1] != told:
            return at
    return None


def place_of(lines):
    """Where the lines are refused, or None."""
    try:
        read_house(lines)
    except NoBook as refusal:
        return refusal.at
    return None


def house_by_chance(chance, deeds, wrong=0.0):
    """A house with so many deeds tried in it, and its number of letters."""
    many, standing = standing_by_chance(chance)
    house = House(many, standing)
    for step in range(deeds):
        word, *things = deed_by_chance(chance, many, wrong)
        refusal_of(getattr(house, word), *things)
    return house, many


def some_change(chance, lines):
    """The lines, changed in one place."""
    lines, at = list(lines), chance.randrange(len(lines))
    how = chance.randrange(8)
    line = lines[at]
    if how == 0:
        del lines[at]
    elif how == 1:
        lines.insert(at, line)
    elif how == 2:
        other = chance.randrange(len(lines))
        lines[at], lines[other] = lines[other], line
    elif how == 3:
        lines[at] = line[:chance.randrange(len(line) + 1)]
    elif how == 4:
        place = chance.randrange(len(line) + 1)
        lines[at] = line[:place] + chance.choice(" ab-()&1z") + line[place:]
    elif how == 5:
        place = chance.randrange(len(line))
        lines[at] = line[:place] + line[place + 1:]
    elif how == 6:
        words, others = line.split(" "), chance.choice(lines).split(" ")
        words[chance.randrange(len(words))] = chance.choice(others)
        lines[at] = " ".join(words)
    else:
        place = chance.randrange(len(line))
        lines[at] = line[:place] + chance.choice(" abcxyz-(&|>=)~{`A5") + line[place + 1:]
    return lines


class ReadBack(unittest.TestCase):
    def alike(self, house, lines, many):
        again = read_house(lines)
        self.assertIsInstance(again, House)
        self.assertEqual(looks_of_house(again, many), looks_of_house(house, many))
        self.assertEqual(again.log(), lines)
        return again

    def test_a_house_by_hand(self):
        house = read_house(LOG)
        self.assertEqual(house.log(), LOG)
        self.assertEqual((house.room(), house.seen()), ([0, 2, 3, 4, 6, 7], [4, 6, 7]))
        self.assertEqual([house.known(k) for k in range(3)], [None, None, True])
        self.assertEqual(house.names(), ["old", "other", "new"])
        self.assertEqual(house.entries("old"), [(B, "doubt"), (A, "deny")])
        self.assertEqual(house.entries("other"), [(C, "grant"), (("not", B), "doubt")])
        self.assertEqual((house.over("old"), house.over("other"), house.entries("new")), (False, True, []))

    def test_the_first_line_alone(self):
        for lines in (["house 1"], ["house 5"], ["house 2 a"], ["house 2 a a (a|b)"], ["house 5 e --e"]):
            self.assertEqual(read_house(lines).log(), lines)
        self.assertEqual(read_house(["house 2 (a|b) -a"]).room(), [2])

    def test_logs_of_many_houses(self):
        chance = random.Random("logs")
        for turn in range(150):
            house, many = house_by_chance(chance, 30, 0.1)
            again = self.alike(house, house.log(), many)
            for step in range(6):
                word, *things = deed_by_chance(chance, many)
                due = refusal_of(getattr(house, word), *things)
                self.assertEqual(refusal_of(getattr(again, word), *things), due)
                self.assertEqual(looks_of_house(again, many), looks_of_house(house, many))

    def test_behind_some_of_the_deeds(self):
        chance = random.Random("some deeds")
        for turn in range(30):
            many, standing = standing_by_chance(chance)
            house, twins = House(many, standing), []
            for step in range(15):
                twins.append((read_house(house.log()), house.log()))
                word, *things = deed_by_chance(chance, many, 0.0)
                refusal_of(getattr(house, word), *things)
            first = looks_of_house(house, many)
            for twin, lines in twins:
                self.assertEqual(twin.log(), lines)
                self.alike(twin, lines, many)
                self.assertEqual(house.log()[:len(lines)], lines)
                refusal_of(twin.learn, 0, None)
                refusal_of(twin.begin, "zz", "doubt", A, "elder")
            self.assertEqual(looks_of_house(house, many), first)

    def test_the_list_that_was_handed_in_is_changed_behind(self):
        lines = list(LOG)
        house = read_house(lines)
        self.assertEqual(lines, LOG)
        first = looks_of_house(house, 3)
        lines.pop()
        lines[0] = "house 1"
        self.assertEqual(looks_of_house(house, 3), first)
        house.log().clear()
        house.learn(0, True)
        self.assertEqual(house.log(), LOG + ["learn a yes"])

    def test_long_and_deep_sentences(self):
        for sentence in (not_chain(30), left_chain(30), right_chain(30), wide_sentence(200), read("-" * 59 + "b"),
                         read("(" * 14 + "a" + "&b)" * 14), read("-" * 60 + "c"), read("-" * 75 + "a")):
            house = House(5, [("or", sentence, ("or", A, E))])
            house.begin("a", "doubt", ("if", sentence, ("same", D, E)), "newer")
            house.say("a", sentence)
            house.learn(1, True)
            house.say("a", ("not", sentence))
            self.alike(house, house.log(), 5)
            self.assertEqual(read_house(house.log()).entries("a")[0][0], sentence)

    def test_sentences_of_sixty_strokes(self):
        for strokes in (59, 60, 61):
            form, other = "-" * strokes + "a", "-" * strokes + "b"
            house = House(2, [read(form)])
            self.assertEqual(house.room(), [1, 3] if strokes == 60 else [0, 2])
            house.begin("old", "true", read(form), "elder")
            house.begin("new", "doubt", read(other), "newer")
            house.learn(1, True)
            words = [house.say("old", read(other)), house.say("new", read(other)), house.say("new", read(form))]
            self.assertEqual(words, ["grant" if strokes == 60 else "deny", "doubt", "grant"])
            self.assertEqual(house.log(), [
                "house 2 " + form, "begin old elder true " + form, "begin new newer doubt " + other, "learn b yes",
                "say old " + other + " " + words[0], "say new " + other + " doubt", "say new " + form + " grant"])
            again = self.alike(house, house.log(), 2)
            self.assertEqual(again.entries("new"), [(read(other), "doubt"), (read(form), "grant")])

    def test_far_deeper_ones(self):
        form = "-" * 5000 + "a"
        house = House(2, [read("--" + form)])
        house.begin("a", "true", read(form), "elder")
        house.say("a", read(form))
        again = read_house(house.log())
        self.assertEqual(again.log(), ["house 2 --" + form, "begin a elder true " + form, "say a " + form + " grant"])


class NoBooks(unittest.TestCase):
    def refused(self, lines, at):
        kept = list(lines)
        self.assertEqual(place_of(lines), at, lines)
        self.assertEqual(lines, kept)
        self.assertEqual(slow_book(lines), at)

    def test_no_line(self):
        self.refused([], 0)

    def test_a_first_line_that_is_none(self):
        for line in ("", " ", "house", "house ", "House 2", "home 2", "2 house", " house 2", "house 2 ", "house  2",
                     "2", "houses 2", "house2", "house 0", "house 6", "house 10", "house 12", "house 22", "house 02",
                     "house +2", "house -1", "house two", "house a", "house 2.", "house (2)", "house 2 2", "house 2  a",
                     "house 2 a ", "house 2 c", "house 2 (a|c)", "house 1 -b", "house 2 (a", "house 2 a b-",
                     "house 2 A", "house 2 (a |b)", "house 2 ( a|b)", "house 2 (a&b))", "house 2 -", "house 2 f",
                     "house 2 a -a",
                     "house 1 (a&-a)", "house 2 a b -(a&b)", "learn a yes", "begin x elder true a", "say x a grant",
                     "end x", "house 2 house 2", "house 5 e e -e", "house ~", "house 2 (a+b)"):
            self.refused([line], 0)
            self.refused([line, "learn a yes"], 0)
            self.refused([line, "no line"], 0)

    def test_each_deeds_line_changed(self):
        ahead = ["house 2 (a|b)", "begin x newer true (a|b)", "begin y elder doubt a", "say x a doubt", "end y"]
        self.assertIsNone(place_of(ahead))
        for line in ("learn a yes", "learn b no", "learn a unknown", "begin z elder true (a&b)",
                     "begin z newer doubt b", "say x b doubt", "say x (a|b) grant", "back x", "end x", "drop x",
                     "drop y", "fork x z", "fork y z"):
            self.assertIsNone(place_of(ahead + [line]), line)
            self.assertIsNone(slow_book(ahead + [line]))
            words = line.split(" ")
            for k in range(len(words)):
                self.refused(ahead + [" ".join(words[:k] + words[k + 1:])], 5)
                for other in ("", "~", "X", "abcdefghi", "Learn", "Grant", "3", "(a"):
                    self.refused(ahead + [" ".join(words[:k] + [other] + words[k + 1:])], 5)
                    self.refused(ahead + [" ".join(words[:k] + [other] + words[k:])], 5)
            for wrong in (line + " ", " " + line, line + " a", line.replace(" ", "  ", 1), line.replace(" ", ""),
                          line.upper(), line[:-1] + "~", "  ".join(words), line + line):
                self.refused(ahead + [wrong], 5)

    def test_what_can_not_be_done(self):
        ahead = ["house 2 (a|b)", "begin x newer true (a|b)", "begin y elder doubt a", "say y b doubt", "end y",
                 "learn a no"]
        for line in ("", " ", "house 2 (a|b)", "house 2", "learn b no", "learn c yes", "learn e unknown", "learn - yes",
                     "learn ab yes", "learn a maybe", "learn a true", "learn yes a", "learn f no", "learn a None",
                     "begin x elder true a", "begin y elder true a", "begin z true elder a", "begin z elder elder a",
                     "begin z true true a", "begin z elder grant a", "begin z old true a", "begin z elder true c",
                     "begin z elder true (a&-a)", "begin z newer false (a|b)", "begin z newer doubt (a|b)",
                     "begin z elder true (a", "begin Z elder true a", "begin abcdefghi elder true a",
                     "begin  elder true a", "say z a deny", "say x a grant", "say x a doubt", "say x c deny",
                     "say x (a deny", "say x a no", "say x a", "say x deny a", "say y a deny", "say y a doubt",
                     "say x (a|b) doubt", "back x", "back y", "back z", "end y", "end z", "drop z", "fork z w",
                     "fork x y", "fork x x", "fork x Z", "fork x abcdefghi", "fork x", "fork x z w", "seen", "log",
                     "ask x a deny", "names", "known a", "write x"):
            self.refused(ahead + [line], 6)
            self.refused(ahead + [line, "learn a no"], 6)

    def test_sentences_that_are_not_in_their_shown_form(self):
        for text in ("( a&b)", "(a &b)", " (a&b)", "(a&b", "a&b", "((a&b))", "[a&b]", "(a&&b)", "(A&b)", "- a",
                     "--", "-a-"):
            self.refused(["house 2 " + text], 0)
            self.refused(["house 2", "begin x elder true " + text], 1)
            self.refused(["house 2", "begin x elder true a", "say x " + text + " doubt"], 2)

    def test_the_first_of_several(self):
        lines = list(LOG)
        for at in (12, 9, 4, 1, 0):
            lines[at] = "wrong"
            self.refused(list(lines), at)
        self.refused(LOG[:1] + LOG, 1)
        self.refused(LOG + LOG, len(LOG))
        self.refused(LOG[1:], 0)
        self.refused(LOG[::-1], 0)

    def test_a_name_that_was_dropped(self):
        ahead = ["house 2", "begin x elder true a", "drop x"]
        for line in ("say x a grant", "back x", "end x", "drop x", "fork x y"):
            self.refused(ahead + [line], 3)
        self.assertIsNone(place_of(ahead + ["begin x newer false a", "say x a deny"]))

    def test_back_with_nothing_said(self):
        self.refused(["house 2", "begin x elder true a", "back x"], 2)
        self.refused(["house 2", "begin x elder true a", "say x a grant", "back x", "back x"], 4)

    def test_answers_that_are_not_due_there(self):
        ahead = ["house 2", "begin x elder true (a|b)", "learn a no", "learn b no", "say x a deny"]
        for word, due in (("grant", None), ("deny", 5), ("doubt", 5)):
            self.assertEqual(place_of(ahead + ["say x b " + word]), due)
        ahead[1] = "begin x newer true (a|b)"
        for word, due in (("grant", 5), ("deny", None), ("doubt", 5)):
            self.assertEqual(place_of(ahead + ["say x b " + word]), due)

    def test_changed_logs_against_the_slow_reader(self):
        chance, met = random.Random("changed logs"), {}
        for turn in range(400):
            house, many = house_by_chance(chance, 20)
            for step in range(8):
                lines = some_change(chance, house.log())
                if step > 5:
                    lines = some_change(chance, lines) if lines else lines
                due = slow_book(lines)
                self.assertEqual(place_of(list(lines)), due, lines)
                kind = "read" if due is None else "first" if due == 0 else "later"
                met[kind] = met.get(kind, 0) + 1
                if due is None:
                    self.assertEqual(read_house(lines).log(), lines)
        self.assertEqual(set(met), {"read", "first", "later"})

    def test_lines_cut_off_are_a_log(self):
        for size in range(1, len(LOG) + 1):
            self.assertIsNone(place_of(LOG[:size]))
            self.assertIsNone(slow_book(LOG[:size]))

    def test_a_line_taken_out_doubled_or_exchanged(self):
        for at in range(len(LOG)):
            for lines in (LOG[:at] + LOG[at + 1:], LOG[:at + 1] + LOG[at:],
                          LOG[:at] + LOG[at + 1:at + 2] + LOG[at:at + 1] + LOG[at + 2:]):
                self.assertEqual(place_of(list(lines)), slow_book(lines))

    def test_each_line_of_a_log_cut_off(self):
        for at in range(len(LOG)):
            for size in range(len(LOG[at])):
                lines = LOG[:at] + [LOG[at][:size]] + LOG[at + 1:]
                self.assertEqual(place_of(list(lines)), slow_book(lines), lines[at])

    def test_a_refusal_is_a_no_book_alone(self):
        for lines in ([], ["house 2 c"], ["house 2 (a"], ["house 2 (a&-a)"], ["house 2", "learn c yes"],
                      ["house 2", "begin x elder true (a"], ["house 2", "begin X elder true a"]):
            self.assertIs(refusal_of(read_house, lines), NoBook)

    def test_the_slow_reader_reads_shown_forms(self):
        self.assertEqual(slow_sentence(slow_shown(EITHER)), EITHER)
        self.assertIsNone(slow_sentence("(a|"))


if __name__ == "__main__":
    unittest.main()
