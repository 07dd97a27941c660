"""The package keeps to the small part of Python that it is written in: the rules that a program can see."""

import ast
import builtins
import pathlib
import re
import unittest

ROOT = pathlib.Path(__file__).resolve().parent.parent
FOLDER = ROOT / "boughdraw"
FILES = sorted(path for path in FOLDER.rglob("*") if path.is_file() and "__pycache__" not in path.parts)

STATEMENTS = (ast.Assign, ast.AugAssign, ast.If, ast.While, ast.For, ast.Return, ast.Break, ast.Continue, ast.Pass,
              ast.Raise, ast.Try, ast.Expr, ast.FunctionDef, ast.ClassDef, ast.ImportFrom)
EXPRESSIONS = (ast.BinOp, ast.BoolOp, ast.UnaryOp, ast.Compare, ast.IfExp, ast.Call, ast.Attribute, ast.Subscript,
               ast.Slice, ast.Constant, ast.List, ast.Tuple, ast.Dict, ast.Set, ast.ListComp, ast.Name, ast.Lambda,
               ast.JoinedStr, ast.FormattedValue)
OWN_OF_PYTHON = """len range enumerate zip min max sum abs sorted reversed int str bool list tuple dict set frozenset
    isinstance ord repr any all divmod Exception ValueError TypeError KeyError IndexError LookupError
    ZeroDivisionError ArithmeticError OverflowError RuntimeError NotImplementedError AttributeError
    StopIteration""".split()
METHODS = """append clear copy count endswith extend find get index insert isalnum isalpha isdigit islower isspace
    isupper items join keys ljust lower lstrip partition pop remove replace reverse rfind rjust rpartition rsplit
    rstrip setdefault split splitlines startswith strip update upper values zfill bit_length""".split()
WORDS_LEFT_OUT = re.compile(r"""\b(type|typing|typing_extensions|enum|Enum|IntEnum|StrEnum|Flag|IntFlag|Generic
    |Protocol|ABC|ABCMeta|namedtuple|NamedTuple|TypedDict|TYPE_CHECKING|abstractmethod)\b
    |dataclass|overload|contextmanager""", re.VERBOSE)
NAMES_LEFT_OUT = """register mro elements open input version_info with_traceback add_note attrgetter breakpoint
    builtins compile copyright credits delattr dir eval exec exit gc getattr globals hasattr help id importlib
    license locals methodcaller os quit setattr super type vars sys""".split()

OWN_METHODS = "__init__ __eq__ __repr__ __str__ __len__".split()

WALKED = "zip enumerate reversed range items keys values".split()
WALKERS = "list tuple dict sorted sum any all enumerate zip min max join".split()


def parsed(path):
    return ast.parse(path.read_text(encoding="utf-8"))


def bound_names(tree):
    """Every name that a file binds, with the node that binds it."""
    found = []
    for node in ast.walk(tree):
        if isinstance(node, ast.Name) and isinstance(node.ctx, ast.Store):
            found.append(node.id)
        elif isinstance(node, ast.arg):
            found.append(node.arg)
        elif isinstance(node, (ast.FunctionDef, ast.ClassDef)):
            found.append(node.name)
    return found


def top_names(tree):
    """The names bound at a file's top, in their order."""
    found = []
    for node in tree.body:
        if isinstance(node, (ast.FunctionDef, ast.ClassDef)):
            found.append(node.name)
        elif isinstance(node, ast.Assign):
            found.append(node.targets[0].id)
    return found


def local_names(tree):
    """The names that the functions of a file bind, their parameters too."""
    functions = [node for node in ast.walk(tree) if isinstance(node, (ast.FunctionDef, ast.Lambda))]
    inner = [node for function in functions for node in ast.walk(function)]
    stored = [node.id for node in inner if isinstance(node, ast.Name) and isinstance(node.ctx, ast.Store)]
    return stored + [node.arg for node in inner if isinstance(node, ast.arg)]


def called_name(node):
    """The name or method that a call calls, None where the node is no such call."""
    if isinstance(node, ast.Call):
        return getattr(node.func, "id", getattr(node.func, "attr", None))
    return None


def import_rows(tree):
    return [node for node in ast.walk(tree) if isinstance(node, ast.ImportFrom)]


class TestLanguage(unittest.TestCase):
    def hold_each(self, hold):
        for path in FILES:
            with self.subTest(path.name):
                hold(path)

    def test_files(self):
        self.assertIn(FOLDER / "__init__.py", FILES)
        self.hold_each(lambda path: self.assertRegex(path.name, r"^([a-z][a-z0-9_]*|__init__)\.py$"))

    def test_signs_and_sizes(self):
        self.hold_each(self.hold_size)

    def hold_size(self, path):
        text = path.read_bytes().decode("utf-8")
        self.assertRegex(text, r"\A[ -~\n]*\Z")
        rows = text.split("\n")
        self.assertLessEqual(len(rows), 400)
        self.assertLessEqual(max(len(row) for row in rows), 120)
        for node in ast.walk(parsed(path)):
            if isinstance(node, ast.FunctionDef):
                self.assertLessEqual(node.end_lineno - node.lineno + 1, 40, node.name)

    def test_words_left_out(self):
        self.hold_each(lambda path: self.assertNotRegex(path.read_text(encoding="utf-8"), WORDS_LEFT_OUT))

    def test_statements_and_expressions(self):
        self.hold_each(self.hold_nodes)

    def hold_nodes(self, path):
        for node in ast.walk(parsed(path)):
            if isinstance(node, ast.stmt):
                self.assertIsInstance(node, STATEMENTS, node)
            if isinstance(node, ast.expr):
                self.assertIsInstance(node, EXPRESSIONS, (node, node.lineno))
            if isinstance(node, ast.Constant):
                self.assertIn(type(node.value), (int, str, bool, type(None)), node.lineno)
            self.hold_form(node)

    def hold_form(self, node):
        if isinstance(node, ast.Assign):
            self.assertEqual(len(node.targets), 1, node.lineno)
            self.assertNotIsInstance(node.targets[0], (ast.Tuple, ast.List), node.lineno)
        if isinstance(node, (ast.For, ast.While)):
            self.assertEqual(node.orelse, [], node.lineno)
        if isinstance(node, ast.Try):
            self.assertEqual(node.finalbody, [], node.lineno)
        if isinstance(node, ast.ListComp):
            self.assertEqual(len(node.generators), 1, node.lineno)
            self.assertLessEqual(len(node.generators[0].ifs), 1, node.lineno)
        if isinstance(node, (ast.FunctionDef, ast.ClassDef)):
            self.assertEqual(node.decorator_list, [], node.lineno)
        if isinstance(node, ast.arguments):
            self.assertEqual((node.vararg, node.kwarg, node.kwonlyargs, node.posonlyargs), (None, None, [], []))
        if isinstance(node, ast.BinOp):
            self.assertNotIsInstance(node.op, (ast.Div, ast.MatMult), node.lineno)
        if isinstance(node, ast.Compare) and any(isinstance(part, (ast.Is, ast.IsNot)) for part in node.ops):
            self.assertIsInstance(node.comparators[-1], ast.Constant, node.lineno)

    def test_imports_draw_from_the_defining_file(self):
        self.hold_each(self.hold_imports)

    def hold_imports(self, path):
        tree = parsed(path)
        for row in import_rows(tree):
            self.assertIn(row, tree.body)
            self.assertEqual(row.level, 0)
            source = ROOT / (row.module.replace(".", "/") + ".py")
            self.assertIn(source, FILES)
            for alias in row.names:
                self.assertIn(alias.name, top_names(parsed(source)))

    def test_no_two_files_draw_from_one_another(self):
        drawn = {"boughdraw." + path.stem: [row.module for row in import_rows(parsed(path))] for path in FILES}

        def hold(name, way):
            self.assertNotIn(name, way)
            for further in drawn[name]:
                hold(further, way + [name])

        for name in drawn:
            hold(name, [])

    def test_names(self):
        self.hold_each(self.hold_names)

    def hold_names(self, path):
        tree = parsed(path)
        self.assertEqual(len(set(top_names(tree))), len(top_names(tree)))
        for name in bound_names(tree):
            self.assertRegex(name, r"^([A-Za-z][A-Za-z0-9_]*|__(init|eq|repr|str|len)__)$")
            self.assertNotIn(name, NAMES_LEFT_OUT)
            self.assertFalse(hasattr(builtins, name) and name not in OWN_METHODS, name)
        for node in ast.walk(tree):
            if isinstance(node, ast.Name) and hasattr(builtins, node.id):
                self.assertIn(node.id, OWN_OF_PYTHON, node.lineno)

    def test_locals_are_not_called_like_what_stands_at_the_top(self):
        self.hold_each(self.hold_locals)

    def hold_locals(self, path):
        tree = parsed(path)
        drawn = [alias.name for row in import_rows(tree) for alias in row.names]
        self.assertEqual(set(local_names(tree)) & set(drawn + top_names(tree)), set())

    def test_walked_at_once(self):
        self.hold_each(self.hold_walks)

    def hold_walks(self, path):
        for node in ast.walk(parsed(path)):
            if isinstance(node, (ast.For, ast.comprehension)):
                walked = [node.iter]
            elif called_name(node) in WALKERS:
                walked = node.args
            else:
                walked = []
            for child in ast.iter_child_nodes(node):
                if called_name(child) in WALKED:
                    self.assertIn(child, walked, child.lineno)

    def test_classes(self):
        self.hold_each(self.hold_classes)

    def hold_classes(self, path):
        for node in ast.walk(parsed(path)):
            if isinstance(node, ast.ClassDef):
                self.assertIn(node.name, top_names(parsed(path)))
                self.assertLessEqual(len(node.bases), 1, node.name)
                self.assertEqual(node.keywords, [], node.name)
                parts = [part for part in node.body if not isinstance(part, ast.Pass)]
                self.assertEqual({type(part) for part in parts} - {ast.FunctionDef}, set(), node.name)
                names = [part.name for part in parts]
                self.assertEqual(len(set(names)), len(names), node.name)
            if isinstance(node, ast.FunctionDef) and node.name == "__init__":
                returns = [part for part in ast.walk(node) if isinstance(part, ast.Return)]
                self.assertEqual([part for part in returns if part.value is not None], [])

    def test_no_name_is_a_method_and_a_value(self):
        nodes = [node for path in FILES for node in ast.walk(parsed(path))]
        classes = [node for node in nodes if isinstance(node, ast.ClassDef)]
        methods = {part.name for node in classes for part in node.body if isinstance(part, ast.FunctionDef)}
        stores = [node for node in nodes if isinstance(node, ast.Attribute) and isinstance(node.ctx, ast.Store)]
        self.assertEqual(methods & {node.attr for node in stores}, set())
        # A value of an object is called like no method or value of Python's own, but for a few.
        own = {name for kind in (str, int, list, dict, set, bytes) for name in dir(kind)}
        free = set("count index title find get join lower upper split strip copy add".split())
        self.assertEqual({node.attr for node in stores} & own - free, set())

    def test_powers(self):
        self.hold_each(self.hold_powers)

    def hold_powers(self, path):
        for node in ast.walk(parsed(path)):
            if isinstance(node, ast.BinOp) and isinstance(node.op, ast.Pow):
                self.assertIsInstance(node.right, ast.Constant, node.lineno)

    def test_texts(self):
        self.hold_each(self.hold_texts)

    def hold_texts(self, path):
        for node in ast.walk(parsed(path)):
            if isinstance(node, ast.Constant) and isinstance(node.value, str):
                self.assertNotIn("%", node.value, node.lineno)

    def test_methods(self):
        self.hold_each(self.hold_methods)

    def hold_methods(self, path):
        own = [name for file in FILES for name in bound_names(parsed(file))]
        for node in ast.walk(parsed(path)):
            if isinstance(node, ast.Call) and isinstance(node.func, ast.Attribute):
                self.assertIn(node.func.attr, METHODS + own, node.lineno)


if __name__ == "__main__":
    unittest.main()
