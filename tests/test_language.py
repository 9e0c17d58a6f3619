"""Rules of the language subset that can be seen in the source of the package."""

import ast
import builtins
import pathlib
import re
import unittest

FOLDER = pathlib.Path(__file__).resolve().parent.parent / "leapwork"
FILES = sorted(path for path in FOLDER.iterdir() if path.name != "__pycache__")
BUILTINS = set("""len range enumerate zip min max sum abs sorted reversed int str bool bytes list tuple dict set
    frozenset isinstance ord repr any all divmod Exception ValueError TypeError KeyError IndexError LookupError
    ZeroDivisionError ArithmeticError OverflowError RuntimeError NotImplementedError AttributeError StopIteration
    NotImplemented iter next map property staticmethod classmethod super""".split())
LIBRARY = {"heapq": {"heappush", "heappop", "heapify", "heapreplace", "heappushpop"},
           "math": {"gcd", "lcm", "isqrt", "comb", "perm", "factorial"},
           "itertools": {"product", "combinations", "permutations"}, "__future__": {"annotations"}}
DOUBLE = set("""init eq repr str len enter exit call iter lt le gt ge ne add sub mul floordiv mod pow and or xor lshift
    rshift radd rsub rmul rfloordiv rmod rand ror rxor rlshift rrshift iadd isub imul ifloordiv imod ipow iand ior ixor
    ilshift irshift neg pos invert abs bool contains getitem setitem""".split())
METHODS = set("""append clear copy count endswith extend find get index insert isalnum isalpha isdigit islower isspace
    isupper items join keys ljust lower lstrip partition pop remove replace reverse rfind rjust rpartition rsplit rstrip
    setdefault split splitlines startswith strip update upper values zfill bit_length title capitalize swapcase casefold
    center expandtabs removeprefix removesuffix rindex isascii isdecimal isnumeric istitle isidentifier isprintable
    translate encode decode hex add discard sort""".split())
NOWHERE = set("register mro elements open input law version_info with_traceback add_note".split())
NO_NAMES = NOWHERE | set("""attrgetter breakpoint builtins compile copyright credits delattr dir eval exec exit gc
    getattr globals hasattr help id importlib license locals methodcaller os quit setattr type vars sys""".split())
NO_WORDS = re.compile(r"\b(typ(e|ing|ing_extensions)|[eE]num|IntEnum|StrEnum|Flag|IntFlag|Generic|Protocol|ABC|ABCMeta"
                      r"|namedtuple|NamedTuple|TypedDict|TYPE_CHECKING|abstractmethod)\b"
                      r"|dataclass|overload|contextmanager")
BARRED = re.compile(r"_wall|_pe_|_dcw_|_enum_|_cm_|_twin_re_|_lay_|_law_|_stub_|_sre|_WallAttr")
STATEMENTS = (ast.Assign, ast.AugAssign, ast.AnnAssign, ast.If, ast.While, ast.For, ast.Return, ast.Break, ast.Continue,
              ast.Pass, ast.Raise, ast.Assert, ast.Delete, ast.Nonlocal, ast.Match, ast.With, ast.Try, ast.Expr,
              ast.FunctionDef, ast.ClassDef, ast.ImportFrom)


class Language(unittest.TestCase):
    def setUp(self):
        self.trees = {path: ast.parse(path.read_text(encoding="utf-8")) for path in FILES if path.suffix == ".py"}
        for path, tree in self.trees.items():
            for node in ast.walk(tree):
                node.at = f"{path.name}:{getattr(node, 'lineno', 0)}"

    def nodes(self, *kinds):
        return [node for tree in self.trees.values() for node in ast.walk(tree) if isinstance(node, kinds)]

    def test_files(self):
        self.assertLessEqual(len(FILES), 100)
        self.assertIn("__init__.py", [path.name for path in FILES])
        for path in FILES:
            self.assertRegex(path.name, r"^([a-z][a-z0-9_]*|__init__|__main__)\.py$")
            self.assertTrue(path.stem.startswith("__") or not hasattr(builtins, path.stem), path.name)
            rows = path.read_text(encoding="utf-8").split("\n")
            self.assertLessEqual(len(rows), 400, path.name)
            for row in rows:
                self.assertRegex(row, r"^[ -~]{0,120}$", path.name)
                self.assertFalse(row.endswith(" "), path.name)

    def test_imports(self):
        for path, tree in self.trees.items():
            kinds = [isinstance(node, ast.ImportFrom) for node in tree.body if not isinstance(node, ast.Expr)]
            self.assertEqual(kinds, sorted(kinds, reverse=True), path.name)
        for node in self.nodes(ast.Import, ast.ImportFrom):
            self.assertIsInstance(node, ast.ImportFrom)
            self.assertEqual(node.level, 0)
            for name in node.names:
                if node.module in LIBRARY:
                    self.assertIn(name.name, LIBRARY[node.module])
                    self.assertIsNone(name.asname)
                else:
                    source = FOLDER.parent.joinpath(*node.module.split(".")).with_suffix(".py")
                    self.assertIn(name.name, self.defined(self.trees[source]))

    def defined(self, tree):
        names = [node.name for node in tree.body if isinstance(node, (ast.FunctionDef, ast.ClassDef))]
        return names + [node.targets[0].id for node in tree.body if isinstance(node, ast.Assign)]

    def test_no_two_files_import_from_each_other(self):
        leans = {f"leapwork.{path.stem}": [node.module for node in tree.body if isinstance(node, ast.ImportFrom)
                                           and node.module.startswith("leapwork")]
                 for path, tree in self.trees.items()}
        done = set()
        while True:
            ready = [name for name in leans if name not in done and done.issuperset(leans[name])]
            if not ready:
                break
            done.update(ready)
        self.assertEqual(sorted(set(leans) - done), [])

    def test_module_level(self):
        for path, tree in self.trees.items():
            bound = []
            for node in tree.body:
                with self.subTest(f"{path.name}:{node.lineno}"):
                    self.assertIsInstance(node, (ast.Expr, ast.ImportFrom, ast.FunctionDef, ast.ClassDef, ast.Assign))
                    if isinstance(node, ast.Expr):
                        self.assertIsInstance(node.value.value, str)
                    if isinstance(node, ast.Assign):
                        self.assertIsInstance(node.targets[0], ast.Name)
                        self.plain(node.value)
                    if isinstance(node, ast.ImportFrom):
                        bound += [name.asname or name.name for name in node.names]
            bound += self.defined(tree)
            self.assertEqual(len(bound), len(set(bound)), path.name)

    def plain(self, value):
        for node in ast.walk(value):
            self.assertIsInstance(node, (ast.Constant, ast.Tuple, ast.List, ast.Dict, ast.Name, ast.UnaryOp, ast.BinOp,
                                         ast.expr_context, ast.operator, ast.unaryop))
            if node is not value:
                self.assertNotIsInstance(node, (ast.List, ast.Dict))

    def test_statements(self):
        for node in self.nodes(ast.stmt):
            self.assertIsInstance(node, STATEMENTS, node.at)
            if isinstance(node, (ast.FunctionDef, ast.ClassDef)):
                self.assertEqual(node.decorator_list, [], node.at)
            if isinstance(node, ast.ClassDef):
                self.assertRegex(node.name, "^[A-Z]", node.at)

    def test_functions_are_small(self):
        for node in self.nodes(ast.FunctionDef):
            self.assertLessEqual(node.end_lineno - node.lineno + 1, 40, node.at)

    def test_values(self):
        for node in self.nodes(ast.Constant):
            self.assertNotIsInstance(node.value, (float, complex), node.at)
            if isinstance(node.value, str):
                self.assertNotIn("%", node.value, node.at)
        self.assertEqual(self.nodes(ast.Div, ast.MatMult, ast.Await), [])
        for node in self.nodes(ast.Compare):
            for sign, side in zip(node.ops, node.comparators):
                if isinstance(sign, (ast.Is, ast.IsNot)):
                    self.assertIn(getattr(side, "value", 0), (None, True, False), node.at)

    def test_names(self):
        for node in self.nodes(ast.Name, ast.arg, ast.FunctionDef, ast.ClassDef):
            name = getattr(node, "id", getattr(node, "arg", getattr(node, "name", "")))
            self.assertNotRegex(name, r"^(" + BARRED.pattern + ")", node.at)
            if name.startswith("__"):
                self.assertIn(name.strip("_"), DOUBLE, node.at)
            elif name != "_":
                self.assertRegex(name, r"^_?[A-Za-z][A-Za-z0-9_]*$", node.at)
            if isinstance(node, ast.Name) and isinstance(node.ctx, ast.Load):
                self.assertTrue(name in BUILTINS or not hasattr(builtins, name), node.at)
                self.assertNotEqual(name, "_", node.at)
            elif not name.startswith("__"):
                self.assertFalse(hasattr(builtins, name), node.at)
            if name != "super":
                self.assertNotIn(name, NO_NAMES, node.at)
        for node in self.nodes(ast.Attribute):
            self.assertNotIn(node.attr, NOWHERE | {"format", "format_map"}, node.at)

    def test_no_variable_is_called_as_an_import_or_class_of_its_file(self):
        for path, tree in self.trees.items():
            taken = {node.name for node in tree.body if isinstance(node, ast.ClassDef)}
            taken |= {name.name for node in tree.body if isinstance(node, ast.ImportFrom) for name in node.names}
            for node in ast.walk(tree):
                if isinstance(node, ast.arg):
                    self.assertNotIn(node.arg, taken, node.at)
                if isinstance(node, ast.Name) and isinstance(node.ctx, ast.Store):
                    self.assertNotIn(node.id, taken, node.at)

    def test_stars_stand_before_plain_values(self):
        for node in self.nodes(ast.Starred):
            self.assertIsInstance(node.value, (ast.Name, ast.Attribute, ast.Subscript), node.at)

    def test_functions_of_a_table_are_called_by_a_name(self):
        for node in self.nodes(ast.Call):
            self.assertIsInstance(node.func, (ast.Name, ast.Attribute), node.at)

    def test_what_a_loop_goes_over_is_not_changed_in_it(self):
        for node in self.nodes(ast.For):
            over = ast.unparse(node.iter)
            for part in [part for row in node.body for part in ast.walk(row)]:
                if isinstance(part, ast.Call) and isinstance(part.func, ast.Attribute):
                    if part.func.attr in ("append", "extend", "insert", "pop", "remove", "clear", "setdefault", "update"):
                        self.assertNotEqual(ast.unparse(part.func.value), over, part.at)
                if isinstance(part, ast.Subscript) and isinstance(part.ctx, (ast.Store, ast.Del)):
                    self.assertNotEqual(ast.unparse(part.value), over, part.at)

    def test_words(self):
        for path, tree in self.trees.items():
            for node in ast.walk(tree):
                for name in ("id", "arg", "attr", "name"):
                    self.assertNotRegex(str(getattr(node, name, "")), NO_WORDS, node.at)
            self.assertNotRegex(path.read_text(encoding="utf-8"), r"_wall|_WallAttr", path.name)

    def test_methods(self):
        own = {part.name for node in self.nodes(ast.ClassDef) for part in node.body
               if isinstance(part, ast.FunctionDef)}
        for node in self.nodes(ast.Call):
            if isinstance(node.func, ast.Attribute):
                self.assertIn(node.func.attr, METHODS | own, node.at)

    def test_all_and_any_take_lists(self):
        for node in self.nodes(ast.Call):
            if getattr(node.func, "id", "") in ("all", "any", "min", "max", "sum", "sorted"):
                for value in node.args:
                    self.assertNotIsInstance(value, ast.GeneratorExp)


if __name__ == "__main__":
    unittest.main()
