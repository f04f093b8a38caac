"""The names and arguments of the document's interface are there as they stand."""

import importlib
import inspect
import unittest

DEFS = {
    "sentences": {"depth": ["sentence"], "letters": ["sentence"], "shown": ["sentence"], "read": ["text"]},
    "worlds": {"true_in": ["sentence", "world"], "worlds_of": ["sentence", "room"], "all_worlds": ["many"],
               "room_of": ["many", "standing"], "sentence_of": ["worlds", "many"]},
    "knowledge": {"seen_by": ["room", "marks"], "plain": ["seen", "worlds"]},
    "footing": {"sides_of": ["room", "kind", "sentence"], "base_of": ["sides"], "stands": ["sides", "worlds"]},
    "rules": {"answer": ["sides", "going", "seen", "worlds"]},
    "papers": {"paper_of": ["talk", "sentence", "seen"], "paper_holds": ["talk", "sentence", "seen", "paper"],
               "clash_of": ["talk"]},
    "judge": {"judged": ["talk", "seen", "row"], "falls": ["many", "room", "kind", "sentence", "row"]},
    "guess": {"guesses": ["many", "room", "kind", "sentence", "row"]},
    "book": {"read_house": ["lines"]},
    "asker": {"way_to": ["talk", "goal", "seen"], "catch_by": ["talk", "seen"], "apart_by": ["one", "other", "seen"]},
}

CLASSES = {
    ("talk", "Talk"): {
        "__init__": ["many", "room", "kind", "sentence", "rule"], "room": [], "base": [], "held": [], "going": [],
        "sides": [], "entries": [], "caught": [], "over": [], "ask": ["sentence", "seen"], "say": ["sentence", "seen"],
        "back": [], "fork": [], "end": []},
    ("house", "House"): {
        "__init__": ["many", "standing"], "room": [], "seen": [], "known": ["letter"], "learn": ["letter", "mark"],
        "plainly": ["sentence"], "begin": ["name", "kind", "sentence", "rule"], "fork": ["name", "other"],
        "drop": ["name"], "names": [], "say": ["name", "sentence"], "ask": ["name", "sentence"], "back": ["name"],
        "end": ["name"], "entries": ["name"], "held": ["name"], "caught": ["name"], "over": ["name"],
        "why": ["name", "sentence"], "clash": ["name"], "bring": ["name", "goal"], "catch": ["name"], "log": []},
}


class Interface(unittest.TestCase):
    def test_defs_take_what_the_document_tells(self):
        for module, defs in DEFS.items():
            there = importlib.import_module("holdtalk." + module)
            for name, arguments in defs.items():
                self.assertEqual(list(inspect.signature(getattr(there, name)).parameters), arguments, name)

    def test_methods_take_what_the_document_tells(self):
        for (module, name), methods in CLASSES.items():
            there = getattr(importlib.import_module("holdtalk." + module), name)
            for method, arguments in methods.items():
                self.assertEqual(list(inspect.signature(getattr(there, method)).parameters)[1:], arguments, method)


if __name__ == "__main__":
    unittest.main()
