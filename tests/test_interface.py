"""The names and arguments of the document's interface are there as they stand."""

import importlib
import inspect
import unittest

DEFS = {
    "sentences": {"depth": ["sentence"], "letters": ["sentence"], "shown": ["sentence"], "read": ["text"]},
    "worlds": {"true_in": ["sentence", "world"], "worlds_of": ["sentence", "room"], "all_worlds": ["many"],
               "room_of": ["many", "standing"], "sentence_of": ["worlds", "many"]},
    "knowledge": {"seen_by": ["room", "marks"], "plain": ["seen", "worlds"]},
    "footing": {"sides_of": ["room", "kind", "sentence"], "base_of": ["sides"], "stands": ["sides", "worlds"]},
    "rules": {"answer": ["sides", "going", "seen", "worlds"]},
}


class Interface(unittest.TestCase):
    def test_defs_take_what_the_document_tells(self):
        for module, defs in DEFS.items():
            there = importlib.import_module("holdtalk." + module)
            for name, arguments in defs.items():
                self.assertEqual(list(inspect.signature(getattr(there, name)).parameters), arguments, name)


if __name__ == "__main__":
    unittest.main()
