import ast
import importlib
import unittest
from pathlib import Path

PACKAGE = Path(__file__).resolve().parent.parent / "sameworth"

# Each name of the interface that has landed, by the file that defines it, with its arguments.
FUNCTIONS = {
    "blocks": {
        "leads_of": ["program"],
        "above": ["program"],
        "rows_of": ["program"],
        "block_of": ["program", "row"],
        "stands": ["program", "row", "block"],
    },
    "programs": {"is_program": ["thing"], "is_plain": ["program"]},
    "runs": {"run": ["program", "takes", "most"]},
    "counts": {
        "reckoned": ["program", "done"],
        "times_done": ["program", "done"],
        "way_of": ["program", "takes", "most"],
    },
    "numbering": {"numbers_of": ["program"]},
    "readings": {"shows_reading": ["program", "numbers"]},
    "spreads": {"opened": ["program", "paper", "row", "steps"]},
    "papers": {"paper_of": ["program"]},
    "papercheck": {"shows_paper": ["program", "paper"], "leasts_by": ["program", "paper"]},
    "roomless": {"roomless": ["program"], "numbers_with_rooms": ["program"]},
    "seen": {"facts_at": ["program", "block"], "seen_from": ["program", "block"]},
    "differing": {
        "takes_by": ["k"],
        "differing": ["program", "one", "other", "tries"],
        "shows_differing": ["program", "one", "other", "told"],
    },
    "away": {"taken_away": ["program"]},
    "putting": {"put_ins": ["program"], "moved": ["program"]},
    "texts": {"program_text": ["program"], "read_program": ["text"]},
    "desk": {"run_desk": ["text"]},
    "homes": {"home_of": ["program", "row"], "there_at": ["program"], "there_behind": ["program", "row"]},
}
CLASSES = {
    "errors": {"WorthError": {}, "BadStep": {"__init__": ["step"]}, "BadRow": {"__init__": ["row"]}, "NoProgram": {}},
    "forms": {
        "Forms": {
            "__init__": [],
            "num": ["n"],
            "leaf": ["name"],
            "plus": ["f", "g"],
            "minus": ["f", "g"],
            "times": ["f", "g"],
            "same": ["f", "g"],
            "below": ["f", "g"],
            "pick": ["f", "parts"],
            "number_in": ["f"],
            "leaves_in": ["f"],
            "put": ["f", "name", "g"],
            "worth": ["f", "worths"],
        },
    },
    "numbering": {
        "Numbering": {
            "__init__": ["program"],
            "numbers": [],
            "leaves": ["row"],
            "worth": ["row", "worths"],
            "is_leaf": ["row"],
        },
    },
}


class Interface(unittest.TestCase):
    def body_of(self, name):
        return ast.parse((PACKAGE / f"{name}.py").read_text(encoding="utf-8")).body

    def functions_in(self, body):
        return {
            node.name: [argument.arg for argument in node.args.args]
            for node in body
            if isinstance(node, ast.FunctionDef)
        }

    def test_functions(self):
        for name, functions in FUNCTIONS.items():
            found = self.functions_in(self.body_of(name))
            for function, arguments in functions.items():
                with self.subTest(function=function):
                    self.assertEqual(found.get(function), arguments)
                    self.assertTrue(callable(getattr(importlib.import_module(f"sameworth.{name}"), function)))

    def test_classes(self):
        for name, classes in CLASSES.items():
            found = {node.name: node.body for node in self.body_of(name) if isinstance(node, ast.ClassDef)}
            for one, methods in classes.items():
                with self.subTest(one=one):
                    self.assertIn(one, found)
                    told = self.functions_in(found[one])
                    for method, arguments in methods.items():
                        self.assertEqual(told.get(method), ["self"] + arguments, method)


if __name__ == "__main__":
    unittest.main()
