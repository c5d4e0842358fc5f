import ast
import importlib
import unittest
from pathlib import Path

PACKAGE = Path(__file__).resolve().parent.parent / "sameworth"

# Each name of the interface that has landed, by the file that defines it, with its arguments.
FUNCTIONS = {
    "blocks": {
        "leads_of": ["program"],
        "above": ["program"],
        "rows_of": ["program"],
        "block_of": ["program", "row"],
        "stands": ["program", "row", "block"],
    },
    "programs": {"is_program": ["thing"], "is_plain": ["program"]},
}
CLASSES = {"errors": ["WorthError", "BadStep", "BadRow", "NoProgram"]}


class Interface(unittest.TestCase):
    def body_of(self, name):
        return ast.parse((PACKAGE / f"{name}.py").read_text(encoding="utf-8")).body

    def test_functions(self):
        for name, functions in FUNCTIONS.items():
            found = {
                node.name: [argument.arg for argument in node.args.args]
                for node in self.body_of(name)
                if isinstance(node, ast.FunctionDef)
            }
            for function, arguments in functions.items():
                with self.subTest(function=function):
                    self.assertEqual(found.get(function), arguments)
                    self.assertTrue(callable(getattr(importlib.import_module(f"sameworth.{name}"), function)))

    def test_classes(self):
        for name, classes in CLASSES.items():
            found = [node.name for node in self.body_of(name) if isinstance(node, ast.ClassDef)]
            for one in classes:
                with self.subTest(one=one):
                    self.assertIn(one, found)


if __name__ == "__main__":
    unittest.main()
