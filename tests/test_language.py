"""Some rules of the language that a glance at the package's files can judge.

Not all of them: what is here keeps slips out, it does not replace reading the rules.
"""

import ast
import builtins
import os
import re
import unittest

PACKAGE = os.path.join(os.path.dirname(os.path.dirname(os.path.abspath(__file__))), "matchgift")
BUILTINS = set(
    "len range enumerate zip min max sum abs sorted reversed int str bool list tuple dict set frozenset"
    " isinstance ord repr any all divmod iter next Exception ValueError TypeError KeyError IndexError LookupError"
    " ZeroDivisionError ArithmeticError OverflowError RuntimeError NotImplementedError AttributeError"
    " StopIteration NotImplemented property staticmethod classmethod super bytes object".split()
)
BARRED_WORDS = (
    "type typing typing_extensions enum Enum IntEnum StrEnum Flag IntFlag Generic Protocol ABC ABCMeta namedtuple"
    " NamedTuple TypedDict TYPE_CHECKING abstractmethod"
).split()
BARRED_PARTS = ("dataclass", "overload", "contextmanager")


def files():
    return sorted(name for name in os.listdir(PACKAGE) if name != "__pycache__")


def text_of(name):
    with open(os.path.join(PACKAGE, name), encoding="utf-8") as source:
        return source.read()


def nodes(name):
    return list(ast.walk(ast.parse(text_of(name))))


class LanguageTest(unittest.TestCase):
    def test_files(self):
        for name in files():
            self.assertRegex(name, r"^([a-z][a-z0-9_]*|__init__)\.py$", "L1, L14")

    def test_characters_and_sizes(self):
        for name in files():
            text = text_of(name)
            self.assertRegex(text, r"^[ -~\n]*$", f"L14: {name}")
            lines = text.split("\n")
            self.assertLessEqual(len(lines) - 1, 400, f"L10: {name}")
            self.assertLessEqual(max(len(line) for line in lines), 120, f"L10: {name}")
            for node in nodes(name):
                if isinstance(node, ast.FunctionDef):
                    self.assertLessEqual(node.end_lineno - node.lineno + 1, 40, f"L10: {name} {node.name}")

    def test_imports(self):
        for name in files():
            for node in nodes(name):
                self.assertNotIsInstance(node, ast.Import, f"L16: {name}")
                if isinstance(node, ast.ImportFrom):
                    self.assertEqual(node.level, 0, f"L2: {name}")
                    self.assertRegex(node.module, r"^matchgift\.[a-z_0-9]+$", f"L2: {name}")
                    defined = [
                        getattr(one, "name", None) or one.targets[0].id
                        for one in ast.parse(text_of(node.module.split(".")[1] + ".py")).body
                        if isinstance(one, (ast.FunctionDef, ast.ClassDef, ast.Assign))
                    ]
                    for alias in node.names:
                        self.assertIn(alias.name, defined, f"L16: {name}")

    def test_no_module_imports_itself_through_others(self):
        above = {
            name: {node.module.split(".")[1] + ".py" for node in nodes(name) if isinstance(node, ast.ImportFrom)}
            for name in files()
        }
        while above:
            free = [name for name in above if not above[name]]
            self.assertTrue(free, f"L16: {sorted(above)} import from each other")
            above = {name: above[name] - set(free) for name in above if name not in free}

    def test_words(self):
        for name in files():
            words = re.findall(r"[A-Za-z_0-9]+", text_of(name))
            for word in words:
                self.assertNotIn(word, BARRED_WORDS, f"L17: {name}")
                for part in BARRED_PARTS:
                    self.assertNotIn(part, word, f"L17: {name}")

    def test_names_and_builtins(self):
        for name in files():
            for node in nodes(name):
                if isinstance(node, ast.Name):
                    self.assertRegex(node.id, r"^[A-Za-z]", f"L12: {name}")
                    if hasattr(builtins, node.id):
                        self.assertIn(node.id, BUILTINS, f"L8: {name}")
                        self.assertIsInstance(node.ctx, ast.Load, f"L15: {name} {node.id}")
                if isinstance(node, ast.arg):
                    self.assertFalse(hasattr(builtins, node.arg), f"L15: {name} {node.arg}")

    def test_no_local_name_is_an_import(self):
        for name in files():
            imported = {
                alias.name for node in nodes(name) if isinstance(node, ast.ImportFrom) for alias in node.names
            }
            bound = {node.id for node in nodes(name) if isinstance(node, ast.Name) and isinstance(node.ctx, ast.Store)}
            bound |= {node.arg for node in nodes(name) if isinstance(node, ast.arg)}
            self.assertFalse(imported & bound, f"L15: {name}")

    def test_values(self):
        for name in files():
            for node in nodes(name):
                self.assertNotIsInstance(node, (ast.Div, ast.Global, ast.AsyncFunctionDef), f"L6, L7: {name}")
                if isinstance(node, ast.Constant):
                    self.assertNotIsInstance(node.value, (float, complex), f"L7: {name}")
                    if isinstance(node.value, str):
                        self.assertNotIn("%", node.value, f"L27: {name}")
                if isinstance(node, ast.BinOp) and isinstance(node.op, ast.Pow):
                    self.assertIsInstance(node.right, ast.Constant, f"L27: {name}")
                    self.assertIn(node.right.value, range(0, 65), f"L27: {name}")

    def test_no_generator_expressions_and_no_sets(self):
        # A class of the package has __eq__, so lists stand in their place.
        for name in files():
            for node in nodes(name):
                self.assertNotIsInstance(node, ast.GeneratorExp, f"L7: {name}")
                self.assertNotIsInstance(node, (ast.Set, ast.SetComp), f"L24: {name}")
                if isinstance(node, ast.Name):
                    self.assertNotIn(node.id, ("set", "frozenset"), f"L24: {name}")

    def test_nothing_is_stored_that_is_to_be_iterated_at_once(self):
        for name in files():
            for node in nodes(name):
                if isinstance(node, (ast.Assign, ast.Return)) and isinstance(node.value, ast.Call):
                    called = node.value.func
                    self.assertNotIn(
                        getattr(called, "id", getattr(called, "attr", "")),
                        ("range", "zip", "enumerate", "reversed", "items", "keys", "values"), f"L23: {name}",
                    )

    def test_no_method_is_an_attribute_elsewhere(self):
        methods, attributes = set(), set()
        for name in files():
            for node in nodes(name):
                if isinstance(node, ast.ClassDef):
                    methods |= {one.name for one in node.body if isinstance(one, ast.FunctionDef)}
                if isinstance(node, ast.Attribute) and isinstance(node.ctx, ast.Store):
                    attributes.add(node.attr)
        self.assertFalse(methods & attributes, "L18")

    def test_handlers_name_own_errors(self):
        for name in files():
            for node in nodes(name):
                if isinstance(node, ast.ExceptHandler):
                    self.assertRegex(getattr(node.type, "id", ""), r"^(No|Too)[A-Z]", f"L19: {name}")


if __name__ == "__main__":
    unittest.main()
