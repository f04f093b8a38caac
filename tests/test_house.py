import itertools
import random
import unittest

from holdtalk.asker import catch_by, way_to
from holdtalk.book import read_house
from holdtalk.errors import (BadName, BadWord, NameTaken, NoLetter, NoStanding, NoTalk, NothingSaid, NoWorld,
                             StrangeLetter, TalkOver)
from holdtalk.house import House
from holdtalk.papers import clash_of, paper_of
from holdtalk.sentences import read
from holdtalk.talk import Talk
from tests.helper import (ALWAYS_TRUE, EITHER, KINDS, LETTER, NEVER_TRUE, RULES, TwinHouse, deed_by_chance, grown,
                          left_chain, looks_of_house, not_chain, refusal_of, slow_plain, slow_shown, slow_true,
                          standing_by_chance, wide_sentence)

A, B, C, D, E = LETTER
ROOM = [0, 1, 2, 3]


def either_house():
    """A house of two letters with two talks of one footing, one by each rule."""
    house = House(2, [])
    house.begin("old", "true", EITHER, "elder")
    house.begin("new", "true", EITHER, "newer")
    return house


class NewHouse(unittest.TestCase):
    def test_without_standing_sentences(self):
        for many in range(1, 6):
            house = House(many, [])
            self.assertEqual((house.room(), house.seen()), (list(range(2 ** many)),) * 2)
            self.assertEqual([house.known(k) for k in range(many)], [None] * many)
            self.assertEqual((house.names(), house.log()), ([], ["house " + str(many)]))

    def test_with_standing_sentences(self):
        house = House(3, [("if", A, B), ("not", C), ("or", A, ("same", B, C))])
        self.assertEqual((house.room(), house.seen()), ([0, 3], [0, 3]))
        self.assertEqual(house.log(), ["house 3 (a>b) -c (a|(b=c))"])

    def test_against_a_slow_reckoning(self):
        chance = random.Random("houses")
        for turn in range(150):
            many, standing = standing_by_chance(chance)
            self.assertEqual(looks_of_house(House(many, standing), many), TwinHouse(many, standing).looks())

    def test_refusals(self):
        self.assertEqual(refusal_of(House, 2, [C]), StrangeLetter)
        self.assertEqual(refusal_of(House, 2, [A, NEVER_TRUE, ("not", E)]), StrangeLetter)
        self.assertEqual(refusal_of(House, 2, [A, ("not", A)]), NoWorld)
        self.assertEqual(refusal_of(House, 1, [NEVER_TRUE]), NoWorld)
        self.assertIsNone(refusal_of(House, 5, [E]))

    def test_the_list_of_standing_sentences_is_changed_behind(self):
        standing = [("or", A, B), ALWAYS_TRUE]
        house = House(2, standing)
        self.assertEqual(standing, [("or", A, B), ALWAYS_TRUE])
        first = looks_of_house(house, 2)
        standing.append(NEVER_TRUE)
        standing[0] = A
        self.assertEqual(looks_of_house(house, 2), first)
        standing.clear()
        self.assertEqual(looks_of_house(house, 2), first)
        self.assertEqual(looks_of_house(read_house(house.log()), 2), first)

    def test_lists_that_are_told_are_changed(self):
        house = either_house()
        house.say("new", A)
        first = looks_of_house(house, 2)
        for look, *things in ((house.room,), (house.seen,), (house.names,), (house.log,), (house.entries, "new"),
                              (house.held, "new")):
            look(*things).append(9)
            look(*things)[0] = 8
            look(*things).clear()
            self.assertEqual(looks_of_house(house, 2), first)

    def test_two_houses_side_by_side(self):
        standing = [("or", A, C)]
        one, other = House(3, standing), House(3, standing)
        one.begin("a", "doubt", B, "elder")
        other.begin("a", "doubt", B, "elder")
        first = looks_of_house(other, 3)
        one.learn(0, True)
        one.say("a", A)
        one.fork("a", "b")
        one.end("a")
        one.drop("b")
        self.assertEqual(looks_of_house(other, 3), first)
        second = looks_of_house(one, 3)
        other.learn(1, False)
        other.drop("a")
        self.assertEqual(looks_of_house(one, 3), second)


class Learn(unittest.TestCase):
    def test_each_letter_and_each_mark(self):
        for many in range(1, 6):
            for letter, mark in itertools.product(range(many), (True, False, None)):
                house = House(many, [])
                self.assertIsNone(house.learn(letter, mark))
                self.assertEqual([house.known(k) for k in range(many)],
                                 [mark if k == letter else None for k in range(many)])
                self.assertEqual(house.seen(), [world for world in range(2 ** many)
                                                if mark is None or (world >> letter & 1 == 1) == mark])
                self.assertEqual(house.plainly(LETTER[letter]), {True: "grant", False: "deny", None: "doubt"}[mark])
                self.assertEqual(house.log()[1:], ["learn " + "abcde"[letter] + " "
                                                   + {True: "yes", False: "no", None: "unknown"}[mark]])

    def test_a_mark_put_otherwise(self):
        house = House(2, [])
        for mark, seen in ((True, [1, 3]), (False, [0, 2]), (None, ROOM), (False, [0, 2]), (False, [0, 2]),
                           (True, [1, 3])):
            house.learn(0, mark)
            self.assertIs(house.known(0), mark)
            self.assertEqual(house.seen(), seen)
        self.assertEqual(house.room(), ROOM)
        self.assertEqual(len(house.log()), 7)

    def test_a_number_that_is_no_letter(self):
        for many in range(1, 6):
            house = House(many, [])
            first = looks_of_house(house, many)
            for letter in (-1, -many, -many - 1, many, many + 1, 10 ** 20, -10 ** 20):
                self.assertEqual(refusal_of(house.known, letter), NoLetter)
                for mark in (True, False, None):
                    self.assertEqual(refusal_of(house.learn, letter, mark), NoLetter)
            self.assertEqual(looks_of_house(house, many), first)

    def test_what_would_leave_no_seen_world(self):
        house = House(2, [("or", A, B)])
        house.learn(0, False)
        first = looks_of_house(house, 2)
        self.assertEqual(refusal_of(house.learn, 1, False), NoWorld)
        self.assertEqual(looks_of_house(house, 2), first)
        house.learn(1, True)
        house.learn(0, None)
        house.learn(1, False)
        self.assertEqual(house.seen(), [1])
        self.assertEqual(refusal_of(house.learn, 0, False), NoWorld)
        self.assertEqual((house.known(0), house.known(1), house.seen()), (None, False, [1]))

    def test_a_number_that_is_no_letter_goes_first(self):
        house = House(1, [A])
        self.assertEqual(refusal_of(house.learn, 0, False), NoWorld)
        self.assertEqual(refusal_of(house.learn, 1, False), NoLetter)

    def test_by_chance(self):
        chance = random.Random("learn")
        for turn in range(100):
            many, standing = standing_by_chance(chance)
            house, twin = House(many, standing), TwinHouse(many, standing)
            for step in range(8):
                deed = ("learn", chance.randrange(many), chance.choice((True, False, None)))
                due = twin.refusal(*deed)
                self.assertEqual(refusal_of(house.learn, *deed[1:]), due)
                if due is None:
                    twin.do(*deed)
                self.assertEqual(looks_of_house(house, many), twin.looks())
                asked = grown(chance, 3, many)
                self.assertEqual(house.plainly(asked), slow_plain(
                    twin.seen(), [world for world in twin.room if slow_true(asked, world)]))

    def test_plainly_with_a_strange_sentence(self):
        house = House(2, [])
        first = looks_of_house(house, 2)
        for strange in (C, ("or", A, ("not", E))):
            self.assertEqual(refusal_of(house.plainly, strange), StrangeLetter)
        self.assertEqual(looks_of_house(house, 2), first)


class Names(unittest.TestCase):
    GOOD = ("a", "z", "ab", "abcdefgh", "zzzzzzzz", "house", "say")
    BAD = (("", "abcdefghi", "abcdefghijklmnop", " ", "a ", " a", "a b", "A", "aB", "a1", "1", "a-b", "_", "a_")
           + tuple("abcdefgh"[:k] + sign + "abcdefgh"[k + 1:] for k in range(8) for sign in "`{A0 (")
           + ("`", "{", "~", "@", "Z"))

    def test_good_ones(self):
        house = House(2, [])
        for name in self.GOOD:
            self.assertIsNone(house.begin(name, "true", A, "elder"))
        self.assertEqual(house.names(), list(self.GOOD))

    def test_bad_ones(self):
        house = House(2, [])
        house.begin("a", "true", A, "elder")
        first = looks_of_house(house, 2)
        for name in self.BAD:
            self.assertEqual(refusal_of(house.begin, name, "true", A, "elder"), BadName, name)
            self.assertEqual(refusal_of(house.fork, "a", name), BadName, name)
            self.assertEqual(refusal_of(house.begin, name, "bad", E, "bad"), BadName)
        self.assertEqual(looks_of_house(house, 2), first)

    def test_taken_ones(self):
        house = House(2, [])
        house.begin("a", "true", A, "elder")
        house.begin("b", "true", A, "newer")
        first = looks_of_house(house, 2)
        for kind, sentence, rule in (("true", A, "elder"), ("true", C, "elder"), ("bad", A, "elder"),
                                     ("true", NEVER_TRUE, "newer"), ("true", A, "bad")):
            self.assertEqual(refusal_of(house.begin, "a", kind, sentence, rule), NameTaken)
            self.assertEqual(refusal_of(house.begin, "b", kind, sentence, rule), NameTaken)
        self.assertEqual(refusal_of(house.fork, "a", "b"), NameTaken)
        self.assertEqual(refusal_of(house.fork, "a", "a"), NameTaken)
        self.assertEqual(looks_of_house(house, 2), first)

    def test_at_fork_no_talk_goes_first(self):
        house = House(2, [])
        self.assertEqual(refusal_of(house.fork, "a", "A"), NoTalk)
        self.assertEqual(refusal_of(house.fork, "a", "a"), NoTalk)
        house.begin("b", "true", A, "elder")
        self.assertEqual(refusal_of(house.fork, "a", "b"), NoTalk)
        self.assertEqual(refusal_of(house.fork, "a", ""), NoTalk)
        self.assertEqual(refusal_of(house.fork, "", "c"), NoTalk)
        self.assertEqual(len(house.log()), 2)

    def test_what_else_begin_refuses(self):
        house = House(2, [("or", A, B)])
        first = looks_of_house(house, 2)
        strange = ("and", C, ("not", C))
        for kind, rule, sentence in itertools.product(("true", "grant", ""), ("newer", "true", ""),
                                                      (A, NEVER_TRUE, strange)):
            due = NoStanding if sentence == NEVER_TRUE else None
            due = BadWord if kind != "true" or rule != "newer" else due
            due = StrangeLetter if sentence == strange else due
            if due is not None:
                self.assertEqual(refusal_of(house.begin, "a", kind, sentence, rule), due)
                self.assertEqual(looks_of_house(house, 2), first)
        self.assertEqual(refusal_of(house.begin, "a", "false", ("or", A, B), "elder"), NoStanding)
        self.assertIsNone(house.begin("a", "true", A, "newer"))

    def test_a_dropped_name_is_free_again(self):
        house = House(2, [])
        house.begin("a", "true", A, "elder")
        house.say("a", B)
        self.assertIsNone(house.drop("a"))
        self.assertEqual(house.names(), [])
        self.assertEqual(refusal_of(house.entries, "a"), NoTalk)
        self.assertEqual(refusal_of(house.drop, "a"), NoTalk)
        house.begin("a", "doubt", B, "newer")
        self.assertEqual((house.entries("a"), house.held("a")), ([], ROOM))

    def test_an_ended_talk_can_be_dropped(self):
        house = House(2, [])
        house.begin("a", "true", A, "elder")
        house.end("a")
        self.assertIsNone(house.drop("a"))
        self.assertEqual(house.log()[-1], "drop a")

    def test_the_order_of_names(self):
        house = House(2, [])
        for name in ("c", "a", "b"):
            house.begin(name, "true", A, "elder")
        house.fork("b", "ab")
        self.assertEqual(house.names(), ["c", "a", "b", "ab"])
        house.drop("a")
        self.assertEqual(house.names(), ["c", "b", "ab"])
        house.begin("z", "true", A, "elder")
        house.fork("z", "a")
        self.assertEqual(house.names(), ["c", "b", "ab", "z", "a"])
        house.drop("c")
        house.begin("c", "true", A, "elder")
        self.assertEqual(house.names(), ["b", "ab", "z", "a", "c"])


class Talks(unittest.TestCase):
    def test_by_hand(self):
        house = either_house()
        house.learn(0, False)
        house.learn(1, False)
        self.assertEqual([house.ask("old", A), house.say("old", A), house.ask("old", B)], ["deny", "deny", "grant"])
        self.assertEqual((house.why("old", B), house.why("old", EITHER)), (("follows", [0, 1]), ("follows", [0])))
        self.assertEqual(house.say("old", B), "grant")
        self.assertEqual([house.ask("new", A), house.say("new", A), house.say("new", B)], ["deny", "deny", "deny"])
        self.assertEqual(house.entries("new"), [(A, "deny"), (B, "deny")])
        self.assertEqual((house.held("old"), house.held("new")), ([2], []))
        self.assertEqual((house.caught("old"), house.caught("new")), (False, True))
        self.assertEqual((house.clash("old"), house.clash("new")), (None, (0, [1, 2])))
        self.assertEqual((house.catch("new"), house.catch("old")), ([], None))
        self.assertEqual(house.bring("old", B), ("row", [B]))
        self.assertEqual(house.bring("new", B), ("never", "fixed", "deny"))
        self.assertEqual(house.back("new"), (B, "deny"))
        self.assertIsNone(house.end("new"))
        self.assertEqual((house.over("old"), house.over("new")), (False, True))
        self.assertEqual(house.log(), [
            "house 2", "begin old elder true (a|b)", "begin new newer true (a|b)", "learn a no", "learn b no",
            "say old a deny", "say old b grant", "say new a deny", "say new b deny", "back new", "end new"])

    def test_learning_between_two_answers(self):
        for name in ("old", "new"):
            house = either_house()
            told = []
            for mark in (None, True, False):
                house.learn(0, mark)
                told.append(house.say(name, A))
            self.assertEqual(told, ["doubt", "grant", "grant" if name == "old" else "deny"])
            self.assertIs(house.caught(name), name == "new")

    def test_a_name_that_is_not_there(self):
        house = either_house()
        first = looks_of_house(house, 2)
        for name in ("a", "", "OLD", "oldold", "abcdefghi"):
            for sentence in (A, C):
                for deed in (house.say, house.ask, house.why, house.bring):
                    self.assertEqual(refusal_of(deed, name, sentence), NoTalk)
            for deed in (house.back, house.end, house.entries, house.held, house.caught, house.over, house.clash,
                         house.catch, house.drop):
                self.assertEqual(refusal_of(deed, name), NoTalk)
        self.assertEqual(looks_of_house(house, 2), first)

    def test_strange_sentences(self):
        house = either_house()
        first = looks_of_house(house, 2)
        for name, deed in itertools.product(("old", "new"), (house.say, house.ask, house.why, house.bring)):
            self.assertEqual(refusal_of(deed, name, ("if", A, C)), StrangeLetter)
        self.assertEqual(looks_of_house(house, 2), first)

    def test_an_ended_talk(self):
        house = either_house()
        house.learn(0, False)
        for name in ("old", "new"):
            house.say(name, A)
            house.end(name)
            first = looks_of_house(house, 2)
            for deed, sentence in itertools.product((house.say, house.why, house.bring), (A, C)):
                self.assertEqual(refusal_of(deed, name, sentence), TalkOver)
            for deed in (house.back, house.end, house.catch):
                self.assertEqual(refusal_of(deed, name), TalkOver)
            self.assertEqual(refusal_of(house.ask, name, C), StrangeLetter)
            self.assertEqual((house.ask(name, EITHER), house.ask(name, A)), ("doubt", "deny"))
            self.assertEqual((house.entries(name), house.held(name)), ([(A, "deny")], [2]))
            self.assertEqual((house.caught(name), house.over(name), house.clash(name)), (False, True, None))
            self.assertEqual(looks_of_house(house, 2), first)

    def test_nothing_to_take_back(self):
        house = either_house()
        first = looks_of_house(house, 2)
        self.assertEqual(refusal_of(house.back, "old"), NothingSaid)
        self.assertEqual(looks_of_house(house, 2), first)

    def test_forks(self):
        house = either_house()
        house.learn(0, False)
        house.say("new", A)
        self.assertIsNone(house.fork("new", "other"))
        house.say("other", ("not", B))
        self.assertEqual((len(house.entries("new")), len(house.entries("other"))), (1, 2))
        house.end("new")
        self.assertEqual((house.over("new"), house.over("other")), (True, False))
        house.fork("new", "third")
        self.assertIs(house.over("third"), True)
        house.drop("new")
        self.assertEqual(house.entries("third"), [(A, "deny")])
        house.back("other")
        house.back("other")
        self.assertEqual(house.entries("third"), [(A, "deny")])

    def test_looks_have_no_line(self):
        house = either_house()
        first = house.log()
        for look, *things in ((house.room,), (house.seen,), (house.known, 0), (house.plainly, A), (house.names,),
                              (house.ask, "old", A), (house.entries, "old"), (house.held, "old"),
                              (house.caught, "old"), (house.over, "old"), (house.why, "old", A),
                              (house.clash, "old"), (house.bring, "old", A), (house.catch, "new"), (house.log,)):
            look(*things)
        self.assertEqual(house.log(), first)

    def test_by_chance_against_talks_by_themselves(self):
        chance, met = random.Random("house"), {}
        for turn in range(300):
            many, standing = standing_by_chance(chance)
            house, twin = House(many, standing), TwinHouse(many, standing)
            for step in range(25):
                word, *things = deed_by_chance(chance, many)
                due = twin.refusal(word, *things)
                met[(word, due)] = met.get((word, due), 0) + 1
                if due is not None:
                    self.assertEqual(refusal_of(getattr(house, word), *things), due, (word, things))
                else:
                    self.assertEqual(getattr(house, word)(*things), twin.do(word, *things))
                self.assertEqual(looks_of_house(house, many), twin.looks())
            self.compare_talks(house, twin, grown(chance, 3, many))
        self.assertEqual({word for word, due in met if due is None},
                         {"learn", "begin", "say", "back", "fork", "end", "drop"})
        self.assertEqual({due for word, due in met}, {None, NoLetter, NoWorld, BadName, NameTaken, NoTalk, TalkOver,
                                                      StrangeLetter, BadWord, NothingSaid, NoStanding})

    def compare_talks(self, house, twin, sentence):
        """Whether all that only asks tells what it does with the talk by itself."""
        for name, talk in twin.talks.items():
            self.assertEqual(house.ask(name, sentence), talk.ask(sentence, twin.seen()))
            self.assertEqual(house.clash(name), clash_of(talk))
            if talk.over():
                continue
            self.assertEqual(house.why(name, sentence), paper_of(talk, sentence, twin.seen()))
            self.assertEqual(house.bring(name, sentence), way_to(talk, sentence, twin.seen()))
            self.assertEqual(house.catch(name), catch_by(talk, twin.seen()))
        self.assertEqual(house.log(), twin.log)

    def test_long_and_deep_sentences(self):
        deep = [not_chain(30), left_chain(30), wide_sentence(200), read("-" * 59 + "b"), read("(" + "-" * 57 + "a&e)")]
        for sentence in deep:
            house = House(5, [("or", sentence, A)])
            house.begin("a", "doubt", ("same", sentence, C), "newer")
            house.begin("b", "doubt", ("same", C, sentence), "elder")
            words = [house.say(name, sentence) for name in ("a", "b")]
            form = slow_shown(sentence)
            self.assertEqual(house.log(), [
                "house 5 (" + form + "|a)", "begin a newer doubt (" + form + "=c)",
                "begin b elder doubt (c=" + form + ")", "say a " + form + " " + words[0],
                "say b " + form + " " + words[1]])

    def test_told_sentences_said_in_the_house(self):
        chance, met = random.Random("told and said"), set()
        for turn in range(60):
            many, standing = standing_by_chance(chance)
            house = House(many, standing)
            for letter in range(many):
                refusal_of(house.learn, letter, chance.choice((True, False)))
            for name, rule in (("old", "elder"), ("new", "newer")):
                for kind in KINDS:
                    if refusal_of(house.begin, name + kind, kind, grown(chance, 3, many), rule) is None:
                        self.bring_and_catch(house, name + kind, grown(chance, 3, many), met)
            self.assertEqual(looks_of_house(read_house(house.log()), many), looks_of_house(house, many))
        self.assertLessEqual({("row", 1), ("row", 2), ("never", 2), ("caught", 2)}, met)

    def bring_and_catch(self, house, name, goal, met):
        way = house.bring(name, goal)
        met.add((way[0], len(way[1]) if way[0] == "row" else 2))
        if way[0] == "row":
            self.assertEqual([house.say(name, sentence) for sentence in way[1]][-1], "grant")
        row = house.catch(name)
        if row is not None:
            for sentence in row:
                house.say(name, sentence)
            met.add(("caught", len(row)))
            self.assertIs(house.caught(name), True)


class Footings(unittest.TestCase):
    def test_talks_go_by_the_room_of_the_house(self):
        house = House(2, [("if", A, B)])
        for rule, name in zip(RULES, ("old", "new")):
            house.begin(name, "doubt", A, rule)
            talk = Talk(2, [0, 2, 3], "doubt", A, rule)
            self.assertEqual(house.held(name), [0, 2, 3])
            for sentence in (A, B, ("if", B, A), ("and", A, B), EITHER):
                self.assertEqual(house.ask(name, sentence), talk.ask(sentence, [0, 2, 3]))


if __name__ == "__main__":
    unittest.main()
