import unittest

from holdtalk import errors
from holdtalk.book import read_house
from holdtalk.errors import NoBook, NoSentence, TalkError
from holdtalk.house import House
from holdtalk.sentences import read

PLAIN = ("StrangeLetter", "NoLetter", "NoWorld", "BadWord", "NoStanding", "TalkOver", "NothingSaid", "BadName",
         "NameTaken", "NoTalk")
PLACED = ("NoSentence", "NoBook")


def house_with_an_ended_talk():
    house = House(2, [])
    house.begin("x", "true", ("let", 0), "elder")
    house.end("x")
    return house


class Errors(unittest.TestCase):
    def test_all_twelve_are_there(self):
        for name in PLAIN + PLACED:
            self.assertTrue(isinstance(getattr(errors, name), type), name)

    def test_each_is_a_talk_error_and_a_value_error(self):
        self.assertTrue(issubclass(TalkError, ValueError))
        for name in PLAIN + PLACED:
            kind = getattr(errors, name)
            self.assertTrue(issubclass(kind, TalkError), name)
            self.assertTrue(issubclass(kind, ValueError), name)

    def test_none_stands_under_another(self):
        for name in PLAIN + PLACED:
            for other in PLAIN + PLACED:
                under = issubclass(getattr(errors, name), getattr(errors, other))
                self.assertEqual(under, name == other, (name, other))

    def test_talk_error_is_none_of_the_twelve(self):
        for name in PLAIN + PLACED:
            self.assertFalse(issubclass(TalkError, getattr(errors, name)), name)

    def test_plain_ones_are_raised_and_taken_by_their_own_name(self):
        for name in PLAIN:
            kind = getattr(errors, name)
            for taken in (kind, TalkError, ValueError):
                with self.assertRaises(taken):
                    raise kind()
                with self.assertRaises(taken):
                    raise kind("some words")

    def test_place_is_kept_as_a_whole_number(self):
        for kind in (NoSentence, NoBook):
            for at in (0, 1, 7, 2000):
                error = kind(at)
                self.assertIs(type(error.at), int)
                self.assertEqual(error.at, at)

    def test_each_object_has_its_own_place(self):
        one, other = NoSentence(3), NoSentence(5)
        self.assertEqual((one.at, other.at), (3, 5))

    def test_each_one_raised_by_a_call_that_meets_it(self):
        house = House(2, [])
        house.begin("x", "true", ("let", 0), "elder")
        ended = house_with_an_ended_talk()
        calls = {"NoSentence": (read, "(a&"), "StrangeLetter": (house.plainly, ("let", 2)),
                 "NoLetter": (house.known, 2), "NoWorld": (House, 1, [read("(a&-a)")]),
                 "BadWord": (house.begin, "y", "maybe", ("let", 0), "elder"),
                 "NoStanding": (house.begin, "y", "true", read("(a&-a)"), "elder"),
                 "TalkOver": (ended.say, "x", ("let", 0)), "NothingSaid": (house.back, "x"),
                 "BadName": (house.fork, "x", "X"), "NameTaken": (house.fork, "x", "x"), "NoTalk": (house.held, "y"),
                 "NoBook": (read_house, [])}
        self.assertEqual(set(calls), set(PLAIN + PLACED))
        for name, (deed, *things) in calls.items():
            with self.assertRaises(ValueError) as caught:
                deed(*things)
            self.assertIsInstance(caught.exception, TalkError)
            met = [other for other in PLAIN + PLACED if isinstance(caught.exception, getattr(errors, other))]
            self.assertEqual(met, [name])

    def test_place_of_a_real_refusal_is_a_whole_number(self):
        for text in ("", "x", "a b", "(a&"):
            with self.assertRaises(NoSentence) as caught:
                read(text)
            self.assertIs(type(caught.exception.at), int)


if __name__ == "__main__":
    unittest.main()
