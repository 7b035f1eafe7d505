"""The names of the interface, each in its file, and what can be seen of the language's rules."""

import ast
import unittest
from pathlib import Path

FOLDER = Path(__file__).resolve().parent.parent / "squaretree"

FUNCTIONS = {
    "pairs": {"pair_of": ["triple"], "triple_of": ["pair"]},
    "rows": {"stepped": ["triple", "step"], "back": ["triple"], "by_row": ["row"], "row_of": ["triple"]},
    "sides": {"longest": ["number"], "leg": ["number"]},
}
CLASSES = {
    "errors": {
        "TripleError": ("ValueError", None),
        "BadTriple": ("TripleError", None),
        "BadPair": ("TripleError", None),
        "BadStep": ("TripleError", None),
        "BadRow": ("TripleError", None),
        "BadNumber": ("TripleError", None),
    },
    "answers": {
        "Answer": (None, None),
        "Longest": ("Answer", ["self", "triples"]),
        "Barred": ("Answer", ["self", "prime"]),
        "Leg": ("Answer", ["self", "triples"]),
        "Halved": ("Answer", None),
    },
}
LIBRARY = {"math": {"gcd", "isqrt"}}


def tree_of(name):
    return ast.parse((FOLDER / f"{name}.py").read_text("ascii"))


def parameters(function):
    return [argument.arg for argument in function.args.args]


class Interface(unittest.TestCase):
    def test_functions(self):
        for name, functions in FUNCTIONS.items():
            found = {part.name: parameters(part) for part in tree_of(name).body if isinstance(part, ast.FunctionDef)}
            for function, arguments in functions.items():
                self.assertEqual(arguments, found.get(function), function)

    def test_classes(self):
        for name, classes in CLASSES.items():
            found = {part.name: part for part in tree_of(name).body if isinstance(part, ast.ClassDef)}
            self.assertEqual(set(classes), set(found))
            for told, (base, arguments) in classes.items():
                self.assertEqual([base] if base else [], [part.id for part in found[told].bases])
                methods = {part.name: parameters(part) for part in found[told].body if isinstance(part, ast.FunctionDef)}
                self.assertEqual(arguments, methods.get("__init__"))
                if name == "answers":
                    self.assertEqual(["self", "number"], methods.get("shows"))


class Language(unittest.TestCase):
    def test_files(self):
        names = sorted(path.name for path in FOLDER.iterdir() if path.name != "__pycache__")
        self.assertEqual(["__init__.py"] + sorted(f"{name}.py" for name in [*FUNCTIONS, *CLASSES, "whole"]), names)

    def test_sizes_and_characters(self):
        for path in FOLDER.glob("*.py"):
            lines = path.read_text("ascii").split("\n")
            self.assertLess(len(lines), 400)
            for line in lines:
                self.assertLessEqual(len(line), 120)
                self.assertTrue(all(" " <= sign <= "~" for sign in line))
            for part in ast.walk(ast.parse(path.read_text("ascii"))):
                if isinstance(part, ast.FunctionDef):
                    self.assertLessEqual(part.end_lineno - part.lineno + 1, 40)

    def test_imports(self):
        for path in FOLDER.glob("*.py"):
            for part in ast.walk(ast.parse(path.read_text("ascii"))):
                self.assertNotIsInstance(part, ast.Import)
                if not isinstance(part, ast.ImportFrom):
                    continue
                for alias in part.names:
                    self.assertIsNone(alias.asname)
                    if part.module in LIBRARY:
                        self.assertIn(alias.name, LIBRARY[part.module])
                        continue
                    package, name = part.module.split(".")
                    self.assertEqual("squaretree", package)
                    defined = [there.name for there in tree_of(name).body if hasattr(there, "name")]
                    self.assertIn(alias.name, defined)


if __name__ == "__main__":
    unittest.main()
