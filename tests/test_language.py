"""Those rules of the language that can be seen by looking at the package's files one by one."""

import ast
import builtins
import re
import unittest
from pathlib import Path

PACKAGE = Path(__file__).resolve().parent.parent / "sameworth"
ALLOWED_BUILTINS = set(
    "len range enumerate zip min max sum abs sorted reversed int str bool bytes list tuple dict set frozenset "
    "isinstance ord repr any all divmod iter next super property staticmethod classmethod NotImplemented "
    "Exception ValueError TypeError KeyError IndexError LookupError ZeroDivisionError ArithmeticError OverflowError "
    "RuntimeError NotImplementedError AttributeError StopIteration object float".split()
)
BARRED_NAMES = set(
    "register mro elements open input law version_info with_traceback add_note attrgetter breakpoint builtins compile "
    "copyright credits delattr dir eval exec exit gc getattr globals hasattr help id importlib license locals "
    "methodcaller os quit setattr type vars sys".split()
)
BARRED_WORDS = re.compile(
    r"\b(type|typing|typing_extensions|enum|Enum|IntEnum|StrEnum|Flag|IntFlag|Generic|Protocol|ABC|ABCMeta|"
    r"namedtuple|NamedTuple|TypedDict|TYPE_CHECKING|abstractmethod)\b|dataclass|overload|contextmanager"
)
BARRED_NODES = (
    ast.Global, ast.AsyncFunctionDef, ast.AsyncFor, ast.AsyncWith, ast.Await, ast.Import, ast.Div, ast.MatMult,
)
DOUBLE = set("__init__ __eq__ __repr__ __str__ __len__ __enter__ __exit__ __call__ __iter__".split())


def package_files():
    return sorted(path for path in PACKAGE.rglob("*") if "__pycache__" not in path.parts)


class Language(unittest.TestCase):
    def each_file(self):
        for path in package_files():
            yield path, path.read_text(encoding="utf-8")

    def each_node(self):
        for path, text in self.each_file():
            for node in ast.walk(ast.parse(text)):
                yield path, node

    def test_files(self):
        self.assertIn("__init__.py", [path.name for path in package_files()])
        for path in package_files():
            self.assertRegex(path.name, r"\A(__init__|__main__|[a-z][a-z0-9_]*)\.py\Z")

    def test_size_and_signs(self):
        for path, text in self.each_file():
            lines = text.split("\n")
            self.assertLessEqual(len(lines) - 1, 399, path.name)
            self.assertLessEqual(max(map(len, lines)), 120, path.name)
            self.assertRegex(text, r"\A[ -~\n]*\Z", path.name)
            self.assertIsNone(BARRED_WORDS.search(text), path.name)

    def test_function_size(self):
        for path, node in self.each_node():
            if isinstance(node, ast.FunctionDef):
                self.assertLessEqual(node.end_lineno - node.lineno + 1, 40, node.name)

    def test_module_level(self):
        for path, text in self.each_file():
            named = []
            for at, node in enumerate(ast.parse(text).body):
                docstring = at == 0 and isinstance(node, ast.Expr) and isinstance(node.value, ast.Constant)
                fine = (ast.ImportFrom, ast.FunctionDef, ast.ClassDef, ast.Assign)
                self.assertTrue(docstring or isinstance(node, fine), ast.dump(node))
                if isinstance(node, ast.ImportFrom):
                    self.assertTrue(node.module.startswith("sameworth."))
                    self.assertEqual(node.level, 0)
                    named += [alias.name for alias in node.names]
                elif isinstance(node, ast.Assign):
                    self.assertEqual([type(target) for target in node.targets], [ast.Name])
                    named.append(node.targets[0].id)
                elif not docstring:
                    named.append(node.name)
            self.assertEqual(len(named), len(set(named)))

    def test_imports_name_the_file_that_defines(self):
        for path, node in self.each_node():
            if isinstance(node, ast.ImportFrom):
                source = PACKAGE.parent / (node.module.replace(".", "/") + ".py")
                body = ast.parse(source.read_text(encoding="utf-8")).body
                defined = [item.name for item in body if isinstance(item, (ast.FunctionDef, ast.ClassDef))]
                defined += [item.targets[0].id for item in body if isinstance(item, ast.Assign)]
                self.assertLessEqual({alias.name for alias in node.names}, set(defined))

    def test_no_two_files_import_from_each_other(self):
        needs = {}
        for path, text in self.each_file():
            body = ast.parse(text).body
            needs[path.stem] = {n.module.split(".")[1] for n in body if isinstance(n, ast.ImportFrom)}
        while needs:
            ready = [name for name in needs if not needs[name] & set(needs)]
            self.assertTrue(ready, needs)
            for name in ready:
                del needs[name]

    def test_names(self):
        for path, node in self.each_node():
            names = []
            if isinstance(node, ast.Name):
                names = [node.id]
                if node.id in vars(builtins):
                    self.assertIn(node.id, ALLOWED_BUILTINS)
                    self.assertIsInstance(node.ctx, ast.Load)
            elif isinstance(node, ast.arg):
                names = [node.arg]
                self.assertNotIn(node.arg, vars(builtins))
            elif isinstance(node, (ast.FunctionDef, ast.ClassDef)):
                names = [node.name]
                self.assertNotIn(node.name, vars(builtins))
            elif isinstance(node, ast.Attribute):
                names = [node.attr]
            for name in names:
                self.assertTrue(name in DOUBLE or not name.startswith("_"), name)
                self.assertNotIn(name, BARRED_NAMES)

    def test_no_local_name_is_an_imports_or_a_classes(self):
        for path, text in self.each_file():
            taken, tree = set(), ast.parse(text)
            for node in tree.body:
                if isinstance(node, ast.ImportFrom):
                    taken |= {alias.asname or alias.name for alias in node.names}
                elif isinstance(node, ast.ClassDef):
                    taken.add(node.name)
            for node in ast.walk(tree):
                if isinstance(node, ast.Name) and isinstance(node.ctx, ast.Store):
                    self.assertNotIn(node.id, taken, path.name)
                elif isinstance(node, ast.arg):
                    self.assertNotIn(node.arg, taken, path.name)

    def test_attributes_that_are_read_are_assigned(self):
        assigned, read = set(), set()
        for path, node in self.each_node():
            if isinstance(node, ast.ClassDef):
                assigned |= {item.name for item in node.body if isinstance(item, ast.FunctionDef)}
            elif isinstance(node, ast.Attribute) and isinstance(node.ctx, ast.Store):
                assigned.add(node.attr)
            elif isinstance(node, ast.Attribute):
                read.add(node.attr)
        of_builtins = set(
            "append clear copy count endswith extend find get index insert isdigit items join keys pop remove replace "
            "reverse setdefault split startswith strip update values sort add discard __init__".split()
        )
        self.assertLessEqual(read - of_builtins, assigned)

    def test_what_a_loop_goes_over_isnt_changed_in_it(self):
        changing = {"append", "clear", "extend", "insert", "pop", "remove", "reverse", "setdefault", "update", "sort"}
        for path, node in self.each_node():
            if not isinstance(node, ast.For):
                continue
            over = {inner.id for inner in ast.walk(node.iter) if isinstance(inner, ast.Name)} - {"self"}
            for inner in [item for row in node.body for item in ast.walk(row)]:
                if isinstance(inner, ast.Call) and isinstance(inner.func, ast.Attribute):
                    if inner.func.attr in changing and isinstance(inner.func.value, ast.Name):
                        self.assertNotIn(inner.func.value.id, over, (path.name, inner.lineno))
                elif isinstance(inner, ast.Subscript) and not isinstance(inner.ctx, ast.Load):
                    if isinstance(inner.value, ast.Name):
                        self.assertNotIn(inner.value.id, over, (path.name, inner.lineno))

    def test_statements_and_signs(self):
        for path, node in self.each_node():
            self.assertNotIsInstance(node, BARRED_NODES)
            if isinstance(node, ast.Constant):
                self.assertNotIsInstance(node.value, (float, complex))
                if isinstance(node.value, str):
                    self.assertNotIn("%", node.value)
            if isinstance(node, ast.Compare):
                for sign, other in zip(node.ops, node.comparators):
                    if isinstance(sign, (ast.Is, ast.IsNot)):
                        self.assertIsInstance(other, ast.Constant)
                        self.assertIn(other.value, (None, True, False))

    def test_no_name_is_a_method_and_an_attribute(self):
        methods, attributes = set(), set()
        for path, node in self.each_node():
            if isinstance(node, ast.ClassDef):
                methods |= {item.name for item in node.body if isinstance(item, ast.FunctionDef)}
            if isinstance(node, ast.Attribute) and isinstance(node.ctx, ast.Store):
                attributes.add(node.attr)
        self.assertEqual(methods & attributes, set())


if __name__ == "__main__":
    unittest.main()
