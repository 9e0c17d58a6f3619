"""The interface: what is defined in which file, with which arguments."""

import ast
import importlib
import inspect
import pathlib
import unittest

FOLDER = pathlib.Path(__file__).resolve().parent.parent / "leapwork"
FUNCTIONS = {
    "terms": {"is_term": "(thing)", "is_row": "(thing)", "is_plain": "(thing)", "is_saying": "(thing)",
              "letters_of": "(thing)", "notions_in": "(thing)", "put_in": "(thing, by)"},
    "notions": {"firm": "(notions)"},
    "worths": {"worth_of": "(thing, table, notions)", "truth_of": "(saying, table, notions)",
               "first_no": "(saying, table, notions)", "looked": "(saying, table, notions)"},
    "sums": {"form_of": "(thing)", "sum_of": "(term)"},
    "lines": {"line_of": "(saying)", "made": "(lines, weights, *, divisor=1)", "is_closed": "(line)"},
    "judge": {"is_bundle": "(thing)", "more_at": "(sayings, notions, node)", "judged": "(bundle, notions, paper)"},
    "floor": {"floor_of": "(bundle)", "leaves_of": "(bundle)", "closed": "(sayings)"},
    "texts": {"fault": "(thing)", "statements": "(text)", "called": "(text)", "ways": "(text)"},
    "writing": {"shown": "(text)", "read": "(writing)"},
    "walk": {"walk": "(book, name, inputs=(), *, ticks=2000)"},
    "goals": {"goals_of": "(book, name)", "goal_number": "(book, name, look, way)"},
    "leaps": {"leap": "(book, name, number, worths)"},
    "code": {"compiled": "(text, *, looked=True)", "heights": "(rows)"},
    "machine": {"run_code": "(book, name, inputs=(), *, ticks=2000, looked=True)"},
    "box": {"dealt": "(k, many)", "inputs_at": "(letters, k)", "number_of": "(letters, inputs)",
            "broken": "(book, name, *, first=12, ticks=40)"},
}
METHODS = {
    ("lines", "Line"): {"__eq__": None, "__len__": None},
    ("house", "House"): {
        "put": "(self, text)", "swap": "(self, text)", "take_out": "(self, name)", "back": "(self, number)",
        "hand": "(self, bundle, paper)", "drop": "(self, bundle)", "mark": "(self)", "names": "(self)", "marks": "(self)", "papers": "(self)",
        "text": "(self, name)", "paper": "(self, bundle)", "goals": "(self, name)", "reaches": "(self, name)", "settled": "(self, name)",
        "told": "(self, name)", "run": "(self, name, inputs=(), *, ticks=2000, by='walk')", "leap": "(self, name, number, worths)",
    },
}
CLASSES = {
    "errors": {"WorkError": None, "NoText": "(word)", "NoWriting": "(place)", "NoName": "(name)", "Standing": "(name)",
               "Full": "(most)", "NoMark": "(number)", "BadLine": "(place)", "NoInputs": None, "NoTicks": None,
               "NoWorths": None, "NoGoal": None, "NoPaper": None},
    "lines": {"Line": "(kind, pairs, number)"},
    "house": {"House": "(*, floor=True)"},
}


class Interface(unittest.TestCase):
    def defined(self, file, kind):
        tree = ast.parse((FOLDER / f"{file}.py").read_text(encoding="utf-8"))
        return [node.name for node in tree.body if isinstance(node, kind)]

    def test_functions(self):
        for file, due in FUNCTIONS.items():
            module = importlib.import_module(f"leapwork.{file}")
            for name, arguments in due.items():
                with self.subTest(f"{file}.{name}"):
                    self.assertIn(name, self.defined(file, ast.FunctionDef))
                    self.assertEqual(str(inspect.signature(getattr(module, name))), arguments)

    def test_classes(self):
        for file, due in CLASSES.items():
            module = importlib.import_module(f"leapwork.{file}")
            for name, arguments in due.items():
                with self.subTest(f"{file}.{name}"):
                    self.assertIn(name, self.defined(file, ast.ClassDef))
                    if arguments is not None:
                        self.assertEqual(str(inspect.signature(getattr(module, name))), arguments)

    def test_methods_stand_in_their_own_class(self):
        for (file, name), due in METHODS.items():
            tree = ast.parse((FOLDER / f"{file}.py").read_text(encoding="utf-8"))
            bodies = [node.body for node in tree.body if isinstance(node, ast.ClassDef) and node.name == name]
            self.assertLessEqual(set(due), {part.name for part in bodies[0] if isinstance(part, ast.FunctionDef)})
            whole = getattr(importlib.import_module(f"leapwork.{file}"), name)
            for method, arguments in due.items():
                if arguments is not None:
                    self.assertEqual(str(inspect.signature(getattr(whole, method))), arguments)


if __name__ == "__main__":
    unittest.main()
