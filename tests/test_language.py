"""Holds the package's files to those rules of LANGUAGE.md that can be read off their text."""

import ast
import builtins
import re
import unittest
from pathlib import Path

PACKAGE = Path(__file__).resolve().parent.parent / "splitstream"
FILES = sorted(PACKAGE.rglob("*.py"))

STATEMENTS = (
    ast.Assign, ast.AugAssign, ast.If, ast.While, ast.For, ast.Return, ast.Break, ast.Continue, ast.Pass,
    ast.Raise, ast.Try, ast.Expr, ast.FunctionDef, ast.ClassDef, ast.ImportFrom,
)
EXPRESSIONS = (
    ast.Constant, ast.List, ast.Tuple, ast.Dict, ast.Set, ast.BinOp, ast.UnaryOp, ast.BoolOp, ast.Compare,
    ast.IfExp, ast.Call, ast.Attribute, ast.Subscript, ast.Slice, ast.ListComp, ast.JoinedStr,
    ast.FormattedValue, ast.Name, ast.Lambda,
)
OWN_NAMES = set(
    "len range enumerate zip min max sum abs sorted reversed int str bool list tuple dict set frozenset "
    "isinstance ord repr any all divmod Exception ValueError TypeError KeyError IndexError LookupError "
    "ZeroDivisionError ArithmeticError OverflowError RuntimeError NotImplementedError AttributeError "
    "StopIteration".split())
DUNDERS = {"__init__", "__eq__", "__repr__", "__str__", "__len__"}
METHODS = set(
    "append clear copy count endswith extend find get index insert isalnum isalpha isdigit islower isspace "
    "isupper items join keys ljust lower lstrip partition pop remove replace reverse rfind rjust rpartition "
    "rsplit rstrip setdefault split splitlines startswith strip update upper values zfill bit_length".split())
UNUSED_WORDS = re.compile(
    r"\b(type|typing|typing_extensions|enum|Enum|IntEnum|StrEnum|Flag|IntFlag|Generic|Protocol|ABC|ABCMeta|"
    r"namedtuple|NamedTuple|TypedDict|TYPE_CHECKING|abstractmethod)\b|dataclass|overload|contextmanager")
KEYWORDS = {
    "sorted": {"key", "reverse"}, "min": {"key", "default"}, "max": {"key", "default"}, "sum": {"start"},
    "enumerate": {"start"}, "zip": {"strict"}}
WALKED_AT_ONCE = {"zip", "enumerate", "reversed", "range"}
WALKERS = {"list", "tuple", "dict", "sorted", "sum", "any", "all", "enumerate", "zip", "min", "max"}
UNUSED_NAMES = {"register", "mro", "elements", "open", "input", "version_info", "with_traceback", "add_note"}


def tree_of(path):
    return ast.parse(path.read_text(encoding="utf-8"))


def nodes_of(kind):
    return [(path.name, node) for path in FILES for node in ast.walk(tree_of(path)) if isinstance(node, kind)]


def drawn_from(path):
    return [node.module for node in tree_of(path).body if isinstance(node, ast.ImportFrom)]


def file_of(module):
    return PACKAGE / (module.split(".")[1] + ".py")


def names_at_top(path):
    names = []
    for node in tree_of(path).body:
        if isinstance(node, (ast.FunctionDef, ast.ClassDef)):
            names.append(node.name)
        elif isinstance(node, ast.Assign):
            names.append(node.targets[0].id)
    return names


def called(node):
    return node.func.id if isinstance(node, ast.Call) and isinstance(node.func, ast.Name) else None


class Signs(unittest.TestCase):
    def test_files(self):
        self.assertIn(PACKAGE / "__init__.py", FILES)
        for path in PACKAGE.iterdir():
            if path.name != "__pycache__":
                self.assertRegex(path.name, r"\A(__init__|__main__|[a-z][a-z0-9_]*)\.py\Z")

    def test_signs_and_sizes(self):
        for path in FILES:
            text = path.read_text(encoding="utf-8")
            self.assertRegex(text, r"\A[ -~\n]*\Z", path.name)
            self.assertLessEqual(len(text.splitlines()), 400, path.name)
            self.assertLessEqual(max(len(row) for row in text.splitlines()), 120, path.name)
            self.assertIsNone(UNUSED_WORDS.search(text), path.name)

    def test_functions_are_short(self):
        for name, node in nodes_of(ast.FunctionDef):
            self.assertLessEqual(node.end_lineno - node.lineno + 1, 40, (name, node.name))


class Imports(unittest.TestCase):
    def test_only_what_the_package_defines_is_drawn(self):
        for path in FILES:
            for node in ast.walk(tree_of(path)):
                if isinstance(node, ast.ImportFrom):
                    self.assertEqual(node.level, 0, path.name)
                    self.assertRegex(node.module, r"\Asplitstream\.[a-z0-9_]+\Z", path.name)
                    for drawn in node.names:
                        self.assertIn(drawn.name, names_at_top(file_of(node.module)), path.name)

    def test_no_two_files_draw_from_one_another(self):
        def walk(path, above):
            self.assertNotIn(path, above)
            for module in drawn_from(path):
                walk(file_of(module), above + [path])

        for path in FILES:
            walk(path, [])

    def test_the_package_itself_draws_nothing(self):
        self.assertEqual(drawn_from(PACKAGE / "__init__.py"), [])


class Forms(unittest.TestCase):
    @classmethod
    def setUpClass(cls):
        cls.nodes = nodes_of(ast.AST)

    def test_statements_and_expressions(self):
        for name, node in nodes_of(ast.stmt):
            self.assertIsInstance(node, STATEMENTS, (name, node.lineno))
        for name, node in nodes_of(ast.expr):
            self.assertIsInstance(node, EXPRESSIONS, (name, node.lineno))
        for name, node in nodes_of((ast.Div, ast.MatMult)):
            self.fail((name, node))

    def test_loops_assignments_and_tries(self):
        for name, node in nodes_of((ast.For, ast.While)):
            self.assertEqual(node.orelse, [], (name, node.lineno))
        for name, node in nodes_of(ast.Assign):
            self.assertEqual(len(node.targets), 1, (name, node.lineno))
        for name, node in nodes_of(ast.Try):
            self.assertEqual(node.finalbody, [], (name, node.lineno))
        for name, node in nodes_of(ast.ListComp):
            self.assertEqual(len(node.generators), 1, (name, node.lineno))
            self.assertLessEqual(len(node.generators[0].ifs), 1, (name, node.lineno))

    def test_functions_and_classes_are_plain(self):
        for name, node in nodes_of((ast.FunctionDef, ast.ClassDef)):
            self.assertEqual(node.decorator_list, [], (name, node.name))
        for name, node in nodes_of(ast.arguments):
            self.assertEqual((node.vararg, node.kwarg, node.kwonlyargs, node.posonlyargs), (None, None, [], []), name)
        for name, node in nodes_of(ast.ClassDef):
            self.assertLessEqual(len(node.bases), 1, (name, node.name))
            self.assertEqual(node.keywords, [], (name, node.name))

    def test_values(self):
        for name, node in nodes_of(ast.Constant):
            self.assertIsInstance(node.value, (int, str, type(None)), (name, node.lineno))
            self.assertNotIn("%", str(node.value), (name, node.lineno))

    def test_no_set_and_no_power(self):
        for name, node in nodes_of((ast.Set, ast.Pow)):
            self.fail((name, node))
        for name, node in nodes_of(ast.Call):
            self.assertNotIn(called(node), ("set", "frozenset", "chr"), (name, node.lineno))

    def test_assignments_unpack_nothing(self):
        for name, node in nodes_of((ast.Assign, ast.AugAssign)):
            target = node.targets[0] if isinstance(node, ast.Assign) else node.target
            self.assertIsInstance(target, (ast.Name, ast.Attribute, ast.Subscript), (name, node.lineno))

    def test_annotations_are_none(self):
        for name, node in nodes_of(ast.arg):
            self.assertIsNone(node.annotation, name)
        for name, node in nodes_of(ast.FunctionDef):
            self.assertIsNone(node.returns, (name, node.name))

    def test_keywords_of_pythons_own(self):
        for name, node in nodes_of(ast.Call):
            if called(node) in OWN_NAMES:
                allowed = KEYWORDS.get(called(node), set())
                self.assertLessEqual({keyword.arg for keyword in node.keywords}, allowed, (name, node.lineno))

    def test_what_is_walked_is_walked_at_once(self):
        walked = {id(node.iter) for name, node in self.nodes if isinstance(node, (ast.For, ast.comprehension))}
        for name, node in self.nodes:
            if called(node) in WALKERS:
                walked |= {id(value) for value in node.args}
        for name, node in self.nodes:
            if called(node) in WALKED_AT_ONCE:
                self.assertIn(id(node), walked, (name, node.lineno))

    def test_errors_are_made_on_the_spot_and_taken_by_name(self):
        for name, node in nodes_of(ast.Raise):
            self.assertIsInstance(node.exc, ast.Call, (name, node.lineno))
        for name, node in nodes_of(ast.Try):
            self.assertEqual(len(node.body), 1, (name, node.lineno))
            for handler in node.handlers:
                self.assertNotIn(ast.unparse(handler.type), ("Exception", "TypeError"), (name, node.lineno))

    def test_is_stands_beside_none_true_and_false_alone(self):
        for name, node in nodes_of(ast.Compare):
            for sign, value in zip(node.ops, node.comparators):
                if isinstance(sign, (ast.Is, ast.IsNot)):
                    self.assertIn(ast.unparse(value), ("None", "True", "False"), (name, node.lineno))


class Names(unittest.TestCase):
    def test_names_are_plain_words(self):
        bound = [(name, node.arg) for name, node in nodes_of(ast.arg)]
        bound += [(name, node.id) for name, node in nodes_of(ast.Name)]
        bound += [(name, node.attr) for name, node in nodes_of(ast.Attribute)]
        bound += [(name, node.name) for name, node in nodes_of((ast.FunctionDef, ast.ClassDef))]
        for name, word in bound:
            if word not in DUNDERS:
                self.assertRegex(word, r"\A[A-Za-z][A-Za-z0-9_]*\Z", name)
            self.assertNotIn(word, UNUSED_NAMES, name)

    def test_only_the_listed_names_of_pythons_own(self):
        for name, node in nodes_of(ast.Name):
            if node.id in dir(builtins):
                self.assertIn(node.id, OWN_NAMES, (name, node.lineno))
                self.assertIsInstance(node.ctx, ast.Load, (name, node.lineno))
        for name, node in nodes_of(ast.arg):
            self.assertNotIn(node.arg, dir(builtins), name)

    def test_methods_called_are_listed_or_the_packages_own(self):
        own = {node.name for name, node in nodes_of(ast.FunctionDef)}
        for name, node in nodes_of(ast.Call):
            if isinstance(node.func, ast.Attribute):
                self.assertIn(node.func.attr, METHODS | own | DUNDERS, (name, node.lineno))

    def test_no_local_is_called_like_a_class_an_import_or_a_def_of_its_file(self):
        for path in FILES:
            tree = tree_of(path)
            taken = set(names_at_top(path)) | {
                drawn.name for node in tree.body if isinstance(node, ast.ImportFrom) for drawn in node.names}
            for kind in (node for node in ast.walk(tree) if isinstance(node, ast.FunctionDef)):
                inner = [node.arg for node in ast.walk(kind) if isinstance(node, ast.arg)]
                inner += [
                    node.id for node in ast.walk(kind)
                    if isinstance(node, ast.Name) and isinstance(node.ctx, ast.Store)]
                self.assertEqual(taken & set(inner), set(), (path.name, kind.name))

    def test_each_name_stands_once(self):
        for path in FILES:
            self.assertEqual(len(names_at_top(path)), len(set(names_at_top(path))), path.name)
        for name, kind in nodes_of(ast.ClassDef):
            methods = [node.name for node in kind.body if isinstance(node, ast.FunctionDef)]
            self.assertEqual(len(methods), len(set(methods)), (name, kind.name))

    def test_no_name_is_a_method_and_a_value(self):
        methods = {
            node.name for name, kind in nodes_of(ast.ClassDef) for node in kind.body
            if isinstance(node, ast.FunctionDef)}
        values = {node.attr for name, node in nodes_of(ast.Attribute) if isinstance(node.ctx, ast.Store)}
        self.assertEqual(methods & values, set())


if __name__ == "__main__":
    unittest.main()
