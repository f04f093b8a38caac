"""The package's files keep to the form of LANGUAGE.md, as far as it is plain to see from the files."""

import ast
import builtins
import pathlib
import re
import unittest

FOLDER = pathlib.Path(__file__).resolve().parent.parent / "holdtalk"
FILES = sorted(FOLDER.glob("*.py"))
TREES = [ast.parse(path.read_text(encoding="ascii"), path.name) for path in FILES]

OWN_NAMES = set("""len range enumerate zip min max sum abs sorted reversed int str bool bytes list tuple dict set
    frozenset isinstance ord repr any all divmod Exception ValueError TypeError KeyError IndexError LookupError
    ZeroDivisionError ArithmeticError OverflowError RuntimeError NotImplementedError AttributeError
    StopIteration""".split())
OUTSIDE = (ast.With, ast.Match, ast.Global, ast.Nonlocal, ast.Yield, ast.YieldFrom, ast.AsyncFunctionDef, ast.Await,
           ast.GeneratorExp, ast.NamedExpr, ast.Import, ast.Div)
# The methods of Python's own values that the program uses; LANGUAGE.md allows some more.
OWN_METHODS = set("""append clear copy count endswith extend find get index insert isalnum isalpha isdigit islower
    isspace isupper items join keys ljust lower lstrip partition pop remove replace reverse rfind rjust rpartition
    rsplit rstrip setdefault split splitlines startswith strip update upper values zfill bit_length add
    discard""".split())
PYTHONS_VALUES = ("", 0, b"", [], (), {}, set())
METHODS = ("__init__", "__eq__", "__repr__", "__str__", "__len__")
WORDS = re.compile(r"\b(type|typing|typing_extensions|enum|Enum|IntEnum|StrEnum|Flag|IntFlag|Generic|Protocol|ABC|"
                   r"ABCMeta|namedtuple|NamedTuple|TypedDict|TYPE_CHECKING|abstractmethod)\b|"
                   r"dataclass|overload|contextmanager")


def bound_names(tree):
    """All names that a file gives something to."""
    for node in ast.walk(tree):
        if isinstance(node, (ast.FunctionDef, ast.ClassDef)):
            yield node.name
        elif isinstance(node, ast.arg):
            yield node.arg
        elif isinstance(node, ast.Name) and isinstance(node.ctx, ast.Store):
            yield node.id
        elif isinstance(node, ast.alias):
            yield node.asname or node.name


class Form(unittest.TestCase):
    def test_only_files_of_the_program_lie_in_the_folder(self):
        self.assertTrue(FILES)
        for path in FOLDER.iterdir():
            if path.name != "__pycache__":
                self.assertRegex(path.name, r"^(__init__|[a-z][a-z0-9_]*)\.py$")

    def test_sizes_and_signs(self):
        for path in FILES:
            rows = path.read_text(encoding="ascii").split("\n")
            self.assertLessEqual(len(rows), 401, path.name)
            for row in rows:
                self.assertLessEqual(len(row), 120, row)
                self.assertRegex(row, r"^[ -~]*$")
                self.assertIsNone(WORDS.search(row), row)

    def test_defs_are_small(self):
        for tree in TREES:
            for node in ast.walk(tree):
                if isinstance(node, ast.FunctionDef):
                    self.assertLessEqual(node.end_lineno - node.lineno + 1, 40, node.name)
                    self.assertEqual(node.decorator_list, [])

    def test_no_word_of_the_language_outside_the_rules(self):
        for tree in TREES:
            for node in ast.walk(tree):
                self.assertNotIsInstance(node, OUTSIDE)
                if isinstance(node, ast.Constant):
                    self.assertNotIsInstance(node.value, (float, complex))
                if isinstance(node, ast.Constant) and isinstance(node.value, str):
                    self.assertNotIn("%", node.value)
                if isinstance(node, (ast.For, ast.While)):
                    self.assertEqual(node.orelse, [])

    def test_imports_are_from_the_very_file(self):
        for tree in TREES:
            for node in ast.walk(tree):
                if isinstance(node, ast.ImportFrom):
                    self.assertEqual(node.level, 0)
                    self.assertRegex(node.module, r"^holdtalk\.[a-z_]+$")
                    source = ast.parse((FOLDER / (node.module.split(".")[1] + ".py")).read_text())
                    given = {top.name for top in source.body if isinstance(top, (ast.FunctionDef, ast.ClassDef))}
                    given |= {name.id for top in source.body if isinstance(top, ast.Assign) for name in top.targets}
                    for name in node.names:
                        self.assertIn(name.name, given)

    def test_names(self):
        for tree in TREES:
            bound = set(bound_names(tree))
            for name in bound:
                self.assertTrue(name in METHODS or re.match(r"^[A-Za-z][A-Za-z0-9_]*$", name), name)
            for node in ast.walk(tree):
                if isinstance(node, ast.arg) or isinstance(node, ast.Name) and isinstance(node.ctx, ast.Store):
                    self.assertFalse(hasattr(builtins, getattr(node, "arg", None) or node.id), ast.dump(node))
                elif isinstance(node, ast.Name) and node.id not in bound:
                    self.assertIn(node.id, OWN_NAMES)

    def test_no_parameter_or_local_is_called_like_an_import_or_a_class(self):
        for tree in TREES:
            kept = {name.name for node in tree.body if isinstance(node, ast.ImportFrom) for name in node.names}
            kept |= {node.name for node in tree.body if isinstance(node, ast.ClassDef)}
            tops = {name.id for node in tree.body if isinstance(node, ast.Assign) for name in node.targets}
            self.assertEqual(kept & tops, set())
            for node in ast.walk(tree):
                if isinstance(node, ast.arg) or isinstance(node, ast.Name) and isinstance(node.ctx, ast.Store):
                    self.assertNotIn(getattr(node, "arg", None) or node.id, kept)

    def test_no_two_files_draw_from_one_another(self):
        drawn = {path.stem: {node.module.split(".")[1] for node in tree.body if isinstance(node, ast.ImportFrom)}
                 for path, tree in zip(FILES, TREES)}
        while drawn:
            free = [name for name, sources in drawn.items() if not sources & set(drawn)]
            self.assertTrue(free, drawn)
            for name in free:
                del drawn[name]

    def test_no_name_is_a_method_in_one_class_and_a_value_in_another(self):
        classes = [node for tree in TREES for node in ast.walk(tree) if isinstance(node, ast.ClassDef)]
        methods = {node.name for each in classes for node in each.body if isinstance(node, ast.FunctionDef)}
        values = {node.attr for tree in TREES for node in ast.walk(tree)
                  if isinstance(node, ast.Attribute) and isinstance(node.ctx, ast.Store)}
        self.assertEqual(methods & values, set())

    def test_values_and_methods_that_are_asked_are_there(self):
        classes = [node for tree in TREES for node in ast.walk(tree) if isinstance(node, ast.ClassDef)]
        methods = {node.name for each in classes for node in each.body if isinstance(node, ast.FunctionDef)}
        values = {node.attr for tree in TREES for node in ast.walk(tree)
                  if isinstance(node, ast.Attribute) and isinstance(node.ctx, ast.Store)}
        for name in (methods | values) - set(METHODS):
            self.assertFalse([each for each in PYTHONS_VALUES if hasattr(each, name)], name)
        for tree in TREES:
            called = [node.func for node in ast.walk(tree) if isinstance(node, ast.Call)]
            for node in ast.walk(tree):
                if isinstance(node, ast.Attribute):
                    self.assertIn(node.attr, methods | OWN_METHODS if node in called else values)

    def test_is_stands_beside_none_true_and_false_alone(self):
        for tree in TREES:
            for node in ast.walk(tree):
                if isinstance(node, ast.Compare) and any(isinstance(sign, (ast.Is, ast.IsNot)) for sign in node.ops):
                    self.assertTrue(isinstance(node.comparators[0], ast.Constant), ast.dump(node))
                    self.assertIn(node.comparators[0].value, (None, True, False))

    def test_no_power_of_an_unwritten_number(self):
        for tree in TREES:
            for node in ast.walk(tree):
                if isinstance(node, ast.BinOp) and isinstance(node.op, ast.Pow):
                    self.assertIsInstance(node.right, ast.Constant)


if __name__ == "__main__":
    unittest.main()
