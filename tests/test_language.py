"""Looks at the package's own files by the rules of the language that the program keeps to."""

import ast
import builtins
import pathlib
import re
import unittest

PACKAGE = pathlib.Path(__file__).resolve().parent.parent / "mustmeet"

OWN_NAMES = set("""len range enumerate zip min max sum abs sorted reversed int str bool list tuple dict set
    isinstance ord repr any all divmod ValueError KeyError IndexError LookupError ZeroDivisionError StopIteration
    Exception""".split())
METHODS = set("""append clear copy count endswith extend find get index insert isalnum isalpha isdigit islower
    isspace isupper items join keys ljust lower lstrip partition pop remove replace reverse rfind rjust rpartition
    rsplit rstrip setdefault split splitlines startswith strip update upper values zfill bit_length""".split())
DUNDERS = {"__init__", "__eq__", "__repr__", "__str__", "__len__"}
NODES = """Module Expr FunctionDef ClassDef arguments arg Assign AugAssign If While For Return Break Continue Pass
    Raise Try ExceptHandler ImportFrom alias Call Name Attribute Subscript Slice Constant List Tuple Dict BinOp UnaryOp
    BoolOp Compare IfExp ListComp comprehension JoinedStr FormattedValue Lambda keyword Load Store Add Sub Mult
    FloorDiv Mod Pow BitAnd BitOr BitXor LShift RShift Invert Not USub UAdd And Or Eq NotEq Lt LtE Gt GtE Is IsNot In
    NotIn""".split()
WORDS_OUT = set("""type typing typing_extensions enum Enum IntEnum StrEnum Flag IntFlag Generic Protocol ABC ABCMeta
    namedtuple NamedTuple TypedDict TYPE_CHECKING abstractmethod""".split())
PARTS_OUT = ("dataclass", "overload", "contextmanager")
NAMES_OUT = set("""register mro elements open input version_info with_traceback add_note attrgetter breakpoint
    builtins compile copyright credits delattr dir eval exec exit gc getattr globals hasattr help id importlib
    license locals methodcaller os quit setattr super type vars sys chr format format_map""".split())
FILES_OUT = {"test", "tests", "testing", "site", "conftest", "sitecustomize", "usercustomize"}
WALKED = {"zip", "enumerate", "reversed", "range", "items", "keys", "values"}
WALKERS = {"list", "tuple", "dict", "sorted", "sum", "any", "all", "enumerate", "zip", "min", "max", "join"}
LASTING = set(dir(builtins))


def called(node):
    if not isinstance(node, ast.Call):
        return None
    return node.func.id if isinstance(node.func, ast.Name) else getattr(node.func, "attr", None)


def bound_names(tree):
    for node in ast.walk(tree):
        if isinstance(node, ast.Name) and isinstance(node.ctx, ast.Store):
            yield node.id
        elif isinstance(node, ast.arg):
            yield node.arg
        elif isinstance(node, ast.ExceptHandler) and node.name:
            yield node.name


class TestLanguage(unittest.TestCase):
    def setUp(self):
        self.paths = sorted(path for path in PACKAGE.rglob("*") if path.parent.name != "__pycache__"
                            and path.name != "__pycache__")
        self.texts = {path.name: path.read_text(encoding="ascii") for path in self.paths}
        self.trees = {name: ast.parse(text) for name, text in self.texts.items()}

    def walk(self):
        for name, tree in self.trees.items():
            for node in ast.walk(tree):
                yield f"{name}:{getattr(node, 'lineno', 0)}", node

    def test_files(self):
        self.assertIn("__init__.py", self.texts)
        for path in self.paths:
            self.assertTrue(path.is_file(), path)
            self.assertRegex(path.name, r"\A([a-z][a-z0-9_]*|__init__|__main__)\.py\Z")
            self.assertFalse(path.stem in FILES_OUT or path.stem.startswith("test_"), path)
            self.assertNotIn(path.stem, LASTING | WORDS_OUT)

    def test_signs_and_sizes(self):
        for name, text in self.texts.items():
            rows = text.split("\n")
            self.assertLessEqual(len(rows), 400, name)
            for row in rows:
                self.assertLessEqual(len(row), 120, name)
                self.assertTrue(all(" " <= sign <= "~" for sign in row), name)
            for word in re.findall(r"\w+", text):
                self.assertNotIn(word, WORDS_OUT, name)
                self.assertFalse([part for part in PARTS_OUT if part in word], name)

    def test_parts_of_the_language(self):
        for place, node in self.walk():
            self.assertIn(type(node).__name__, NODES, place)
            if isinstance(node, ast.Constant):
                self.assertTrue(node.value is None or type(node.value) in (int, str, bool), place)
                self.assertFalse(isinstance(node.value, str) and "%" in node.value, place)
            if isinstance(node, ast.FormattedValue):
                self.assertIsInstance(node.value, ast.Name, place)
                self.assertIsNone(node.format_spec, place)
            if isinstance(node, ast.ListComp):
                self.assertEqual(len(node.generators), 1, place)
                self.assertLessEqual(len(node.generators[0].ifs), 1, place)
            if isinstance(node, ast.Assign):
                self.assertEqual(len(node.targets), 1, place)
            if isinstance(node, (ast.For, ast.While, ast.Try)):
                self.assertFalse(getattr(node, "finalbody", []), place)
                self.assertTrue(isinstance(node, ast.Try) or not node.orelse, place)

    def test_lone_values(self):
        for name, tree in self.trees.items():
            self.assertIsNotNone(ast.get_docstring(tree), name)
            for node in ast.walk(tree):
                if isinstance(node, ast.Expr) and node is not tree.body[0]:
                    self.assertIsInstance(node.value, ast.Call, f"{name}:{node.lineno}")

    def test_the_top_of_files(self):
        kinds = (ast.ImportFrom, ast.FunctionDef, ast.ClassDef, ast.Assign)
        for name, tree in self.trees.items():
            tops = [getattr(node, "name", None) for node in tree.body[1:]]
            for node in tree.body[1:]:
                self.assertIsInstance(node, kinds, name)
                if isinstance(node, ast.Assign):
                    tops.append(node.targets[0].id)
            tops = [top for top in tops if top is not None]
            self.assertEqual(len(tops), len(set(tops)), name)

    def test_imports(self):
        drawn = {}
        for name, tree in self.trees.items():
            drawn[name] = []
            for node in ast.walk(tree):
                if isinstance(node, ast.ImportFrom):
                    self.assertIn(node, tree.body, name)
                    self.assertEqual(node.level, 0, name)
                    self.assertRegex(node.module, r"\Amustmeet\.[a-z_]+\Z", name)
                    source = node.module.split(".")[1] + ".py"
                    drawn[name].append(source)
                    defined = [getattr(top, "name", None) or getattr(getattr(top, "targets", [None])[0], "id", None)
                               for top in self.trees[source].body]
                    for told in node.names:
                        self.assertIn(told.name, defined, name)
                        self.assertIsNone(told.asname, name)
        while drawn:
            free = [name for name, sources in drawn.items() if not set(sources) & set(drawn)]
            self.assertTrue(free, f"these draw from one another: {sorted(drawn)}")
            for name in free:
                drawn.pop(name)

    def test_functions_and_classes(self):
        for place, node in self.walk():
            if isinstance(node, ast.FunctionDef):
                self.assertLessEqual(node.end_lineno - node.lineno + 1, 40, place)
                self.assertFalse(node.decorator_list or node.returns, place)
                self.assertFalse(node.args.vararg or node.args.kwarg or node.args.kwonlyargs, place)
                self.assertFalse(node.args.posonlyargs, place)
            if isinstance(node, ast.arg):
                self.assertIsNone(node.annotation, place)
            if isinstance(node, ast.ClassDef):
                self.assertLessEqual(len(node.bases), 1, place)
                self.assertFalse(node.decorator_list or node.keywords, place)
                for part in node.body:
                    self.assertIsInstance(part, (ast.FunctionDef, ast.Pass), place)

    def test_names(self):
        for name, tree in self.trees.items():
            tops = {top.name for top in tree.body if isinstance(top, (ast.FunctionDef, ast.ClassDef))}
            drawn = {told.name for top in tree.body if isinstance(top, ast.ImportFrom) for told in top.names}
            for bound in bound_names(tree):
                self.assertRegex(bound, r"\A[A-Za-z][A-Za-z0-9_]*\Z", name)
                self.assertNotIn(bound, LASTING | NAMES_OUT | drawn | tops, name)
            local = set(bound_names(tree)) | tops | drawn
            for node in ast.walk(tree):
                if isinstance(node, ast.Name):
                    self.assertIn(node.id, OWN_NAMES | local, f"{name}:{node.lineno}")
                if isinstance(node, (ast.FunctionDef, ast.ClassDef)) and node.name not in DUNDERS:
                    self.assertFalse(node.name.startswith("_"), name)
                    self.assertNotIn(node.name, LASTING | NAMES_OUT, name)

    def test_attributes(self):
        methods = {part.name for place, node in self.walk() if isinstance(node, ast.ClassDef)
                   for part in node.body if isinstance(part, ast.FunctionDef)}
        for place, node in self.walk():
            if isinstance(node, ast.Attribute):
                self.assertNotIn(node.attr, NAMES_OUT, place)
            if isinstance(node, ast.Call) and isinstance(node.func, ast.Attribute):
                self.assertIn(node.func.attr, METHODS | methods, place)

    def test_is_beside_none_and_truths_alone(self):
        for place, node in self.walk():
            if isinstance(node, ast.Compare):
                for kind, right in zip(node.ops, node.comparators):
                    if isinstance(kind, (ast.Is, ast.IsNot)):
                        self.assertIsInstance(right, ast.Constant, place)
                        self.assertIn(right.value, (None, True, False), place)

    def test_walked_at_once(self):
        for name, tree in self.trees.items():
            fine = []
            for node in ast.walk(tree):
                if isinstance(node, (ast.For, ast.comprehension)):
                    fine.append(node.iter)
                if called(node) in WALKERS:
                    fine.extend(node.args)
            for node in ast.walk(tree):
                if called(node) in WALKED:
                    self.assertIn(node, fine, f"{name}:{node.lineno}")

    def test_no_set_is_kept(self):
        for place, node in self.walk():
            self.assertNotIn(called(node), ("set", "frozenset"), place)

    def test_errors_taken(self):
        for place, node in self.walk():
            if isinstance(node, ast.ExceptHandler):
                self.assertIsInstance(node.type, ast.Name, place)
                self.assertNotIn(node.type.id, LASTING - {"KeyError", "ZeroDivisionError"}, place)
            if isinstance(node, ast.Raise):
                self.assertIsInstance(node.exc, ast.Call, place)


if __name__ == "__main__":
    unittest.main()
