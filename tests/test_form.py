"""The rules of the language that a glance at the syntax tree can check, for every file of the package."""

import ast
import builtins
import pathlib
import re
import unittest

PACKAGE = pathlib.Path(__file__).resolve().parent.parent / "fillbehind"
FILES = sorted(PACKAGE.glob("*.py"))
BUILTINS = set(
    "len range enumerate zip min max sum abs sorted reversed int str bool bytes list tuple dict set frozenset "
    "isinstance ord repr any all divmod iter next Exception ValueError TypeError KeyError IndexError LookupError "
    "ZeroDivisionError ArithmeticError OverflowError RuntimeError NotImplementedError AttributeError StopIteration "
    "NotImplemented property staticmethod classmethod super".split())
BARRED = re.compile(
    r"\b(type|typing|typing_extensions|enum|Enum|IntEnum|StrEnum|Flag|IntFlag|Generic|Protocol|ABC|ABCMeta|namedtuple|"
    r"NamedTuple|TypedDict|TYPE_CHECKING|abstractmethod)\b|dataclass|overload|contextmanager")
NOWHERE = {"register", "mro", "elements", "open", "input", "law", "version_info", "with_traceback", "add_note"}
METHODS = {"__init__", "__eq__", "__call__", "__len__", "__or__", "__contains__", "__iter__", "__getitem__"}


class TestForm(unittest.TestCase):
    def each_node(self):
        for path in FILES:
            for node in ast.walk(ast.parse(path.read_text(encoding="utf-8"))):
                yield f"{path.name}:{getattr(node, 'lineno', 0)}", node

    def test_files(self):
        self.assertIn(PACKAGE / "__init__.py", FILES)
        found = [path for path in PACKAGE.iterdir() if path.name != "__pycache__"]
        self.assertEqual(sorted(found), FILES)

    def test_lines_and_characters(self):
        for path in FILES:
            text = path.read_text(encoding="utf-8")
            lines = text.split("\n")
            self.assertLessEqual(len(lines), 399, path.name)
            self.assertLessEqual(max(len(line) for line in lines), 120, path.name)
            self.assertTrue(all(char == "\n" or " " <= char <= "~" for char in text), path.name)
            self.assertIsNone(BARRED.search(text), path.name)

    def test_functions_are_short(self):
        for where, node in self.each_node():
            if isinstance(node, ast.FunctionDef):
                self.assertLessEqual(node.end_lineno - node.lineno + 1, 40, where)

    def test_imports(self):
        for where, node in self.each_node():
            self.assertNotIsInstance(node, ast.Import, where)
            if isinstance(node, ast.ImportFrom):
                self.assertEqual(node.level, 0, where)
                source = PACKAGE / (node.module.split(".")[1] + ".py")
                defined = set()
                for row in ast.parse(source.read_text(encoding="utf-8")).body:
                    if isinstance(row, (ast.FunctionDef, ast.ClassDef)):
                        defined.add(row.name)
                    elif isinstance(row, ast.Assign):
                        defined.add(row.targets[0].id)
                self.assertLessEqual({each.name for each in node.names}, defined, where)

    def test_names(self):
        for where, node in self.each_node():
            names = []
            if isinstance(node, ast.Name):
                names = [node.id]
                if hasattr(builtins, node.id):
                    self.assertIn(node.id, BUILTINS, where)
                    self.assertIsInstance(node.ctx, ast.Load, where)
            elif isinstance(node, ast.arg):
                names = [node.arg]
                self.assertFalse(hasattr(builtins, node.arg), where)
            elif isinstance(node, ast.Attribute):
                names = [node.attr]
            elif isinstance(node, (ast.FunctionDef, ast.ClassDef)):
                names = [node.name]
            for name in names:
                self.assertNotIn(name, NOWHERE, where)
                self.assertTrue(name in METHODS or not name.startswith("_"), where)

    def test_expressions(self):
        for where, node in self.each_node():
            self.assertNotIsInstance(node, (ast.Div, ast.GeneratorExp, ast.Global, ast.AsyncFunctionDef), where)
            if isinstance(node, ast.Constant):
                self.assertNotIsInstance(node.value, (float, complex), where)
                if isinstance(node.value, str):
                    self.assertNotIn("\u0025", node.value, where)
            if isinstance(node, ast.Compare):
                for sign, value in zip(node.ops, node.comparators):
                    if isinstance(sign, (ast.Is, ast.IsNot)):
                        self.assertIsInstance(value, ast.Constant, where)

    def test_no_name_is_a_method_and_an_attribute(self):
        methods, attributes = set(), set()
        for _, node in self.each_node():
            if isinstance(node, ast.ClassDef):
                methods |= {row.name for row in node.body if isinstance(row, ast.FunctionDef)}
            if isinstance(node, ast.Attribute) and isinstance(node.ctx, ast.Store):
                attributes.add(node.attr)
        self.assertEqual(methods & attributes, set())

    def test_no_call_by_the_name_of_an_attribute(self):
        attributes, calls = set(), []
        for where, node in self.each_node():
            if isinstance(node, ast.Attribute) and isinstance(node.ctx, ast.Store):
                attributes.add(node.attr)
            if isinstance(node, ast.Call) and isinstance(node.func, ast.Attribute):
                calls.append((where, node.func.attr))
        self.assertIn("index", attributes)
        self.assertEqual([(where, name) for where, name in calls if name in attributes], [])

    def test_no_variable_has_the_name_of_a_class_an_import_or_a_function(self):
        for path in FILES:
            tree = ast.parse(path.read_text(encoding="utf-8"))
            top = {row.name for row in tree.body if isinstance(row, (ast.FunctionDef, ast.ClassDef))}
            top |= {each.name for row in tree.body if isinstance(row, ast.ImportFrom) for each in row.names}
            for node in ast.walk(tree):
                if isinstance(node, ast.Name) and isinstance(node.ctx, ast.Store):
                    self.assertNotIn(node.id, top, f"{path.name}:{node.lineno}")
                if isinstance(node, ast.arg):
                    self.assertNotIn(node.arg, top, f"{path.name}:{node.lineno}")

    def test_generators(self):
        names = set()
        for where, node in self.each_node():
            if isinstance(node, (ast.Try, ast.With)):
                inside = [each for each in ast.walk(node) if isinstance(each, (ast.Yield, ast.YieldFrom))]
                self.assertEqual(inside, [], where)
            if isinstance(node, ast.FunctionDef) and any(isinstance(each, ast.Yield) for each in ast.walk(node)):
                names.add(node.name)
        self.assertEqual(names, {"play", "walk"})

    def test_files_do_not_import_each_other(self):
        reached = {}
        for path in FILES:
            rows = ast.parse(path.read_text(encoding="utf-8")).body
            reached[path.stem] = {row.module.split(".")[1] for row in rows if isinstance(row, ast.ImportFrom)}
        for _ in FILES:
            for name, others in reached.items():
                reached[name] = others.union(*[reached[other] for other in others])
        for name, others in reached.items():
            self.assertNotIn(name, others)
