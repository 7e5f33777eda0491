"""The package keeps to the part of Python that it is written in: the rules that a walk over its trees can see."""

import ast
import builtins
import os
import re
import unittest

PACKAGE = "digmatrix"
FOLDER = os.path.join(os.path.dirname(os.path.dirname(os.path.abspath(__file__))), PACKAGE)

BUILT_IN = set(
    "len range enumerate zip min max sum abs sorted reversed int str bool list tuple dict set frozenset isinstance ord "
    "repr any all divmod Exception ValueError TypeError KeyError IndexError LookupError ZeroDivisionError "
    "ArithmeticError OverflowError RuntimeError NotImplementedError AttributeError StopIteration".split()
)
STATEMENTS = (
    ast.FunctionDef, ast.ClassDef, ast.Assign, ast.AugAssign, ast.AnnAssign, ast.If, ast.While, ast.For, ast.Return,
    ast.Break, ast.Continue, ast.Pass, ast.Raise, ast.Try, ast.Expr, ast.ImportFrom,
)
NO_EXPRESSIONS = (
    ast.SetComp, ast.DictComp, ast.GeneratorExp, ast.NamedExpr, ast.Starred, ast.Await, ast.Yield, ast.YieldFrom,
    ast.Div, ast.MatMult,
)
TWO_UNDERSCORES = {"__init__", "__eq__", "__repr__", "__str__", "__len__", "__all__", "__version__", "__name__"}
METHODS = set(
    "append clear copy count endswith extend find get index insert isalnum isalpha isdigit islower isspace isupper items "
    "join keys ljust lower lstrip partition pop remove replace reverse rfind rjust rpartition rsplit rstrip setdefault "
    "split splitlines startswith strip update upper values zfill bit_length".split()
)
WALKED = ("zip", "enumerate", "reversed", "range", "items", "keys", "values")
WALKERS = ("list", "tuple", "dict", "sorted", "sum", "any", "all", "enumerate", "zip", "min", "max")
NO_WORDS = re.compile(
    r"\b(type|typing|typing_extensions|enum|Enum|IntEnum|StrEnum|Flag|IntFlag|Generic|Protocol|ABC|ABCMeta|namedtuple|"
    r"NamedTuple|TypedDict|TYPE_CHECKING|abstractmethod)\b|dataclass|overload|contextmanager"
)


def files():
    return sorted(name for name in os.listdir(FOLDER) if name != "__pycache__")


def source(name):
    with open(os.path.join(FOLDER, name), encoding="utf-8", newline="") as file:
        return file.read()


def names_bound(tree):
    for node in ast.walk(tree):
        if isinstance(node, ast.Name) and isinstance(node.ctx, ast.Store):
            yield node.id
        elif isinstance(node, (ast.FunctionDef, ast.ClassDef)):
            yield node.name
        elif isinstance(node, ast.arg):
            yield node.arg
        elif isinstance(node, ast.ImportFrom):
            for alias in node.names:
                yield alias.asname or alias.name
        elif isinstance(node, ast.ExceptHandler) and node.name:
            yield node.name


def drawn_from(tree):
    return [node.module for node in ast.walk(tree) if isinstance(node, ast.ImportFrom)]


def trees():
    return [(name, ast.parse(source(name), name)) for name in files()]


class Language(unittest.TestCase):
    def test_files(self):
        self.assertIn("__init__.py", files())
        for name in files():
            self.assertRegex(name, r"^(__init__|[a-z][a-z0-9_]*)\.py$")

    def test_signs_and_sizes(self):
        for name in files():
            with self.subTest(file=name):
                text = source(name)
                self.assertEqual([sign for sign in text if sign != "\n" and not " " <= sign <= "~"], [])
                self.assertLessEqual(text.count("\n"), 400)
                self.assertLessEqual(max(len(line) for line in text.split("\n")), 120)
                self.assertIsNone(NO_WORDS.search(text))

    def test_imports(self):
        for name, tree in trees():
            for node in ast.walk(tree):
                self.assertNotIsInstance(node, ast.Import)
                if isinstance(node, ast.ImportFrom):
                    self.assertIn(node, tree.body)
                    self.assertEqual(node.level, 0)
                    self.assertRegex(node.module, rf"^{PACKAGE}\.[a-z0-9_]+$")
                    defined = ast.parse(source(node.module.split(".")[1] + ".py"))
                    for alias in node.names:
                        self.assertIn(alias.name, [part.name for part in defined.body if hasattr(part, "name")])

    def test_no_two_files_draw_from_one_another(self):
        draws = {f"{PACKAGE}.{name[:-3]}": drawn_from(tree) for name, tree in trees()}
        self.assertEqual(draws[f"{PACKAGE}.__init__"], [])
        left = dict(draws)
        while left:
            free = [name for name in left if not any(other in left for other in left[name])]
            self.assertNotEqual(free, [])
            for name in free:
                del left[name]

    def test_statements(self):
        for name, tree in trees():
            for node in ast.walk(tree):
                if isinstance(node, ast.stmt):
                    self.assertIsInstance(node, STATEMENTS, getattr(node, "lineno", 0))
                if isinstance(node, ast.Assign):
                    self.assertEqual(len(node.targets), 1)
                if isinstance(node, (ast.For, ast.While)):
                    self.assertEqual(node.orelse, [])
                if isinstance(node, ast.Try):
                    self.assertEqual(node.finalbody, [])
                    self.assertTrue(all(handler.type is not None for handler in node.handlers))
                if isinstance(node, ast.Expr) and node is not tree.body[0]:
                    self.assertIsInstance(node.value, ast.Call)

    def test_expressions(self):
        for name, tree in trees():
            for node in ast.walk(tree):
                self.assertNotIsInstance(node, NO_EXPRESSIONS)
                if isinstance(node, ast.Constant):
                    self.assertNotIsInstance(node.value, (float, bytes, complex))
                    if isinstance(node.value, str):
                        self.assertNotIn("%", node.value)
                if isinstance(node, ast.ListComp):
                    self.assertEqual(len(node.generators), 1)
                    self.assertLessEqual(len(node.generators[0].ifs), 1)
                if isinstance(node, ast.FormattedValue):
                    self.assertIsInstance(node.value, ast.Name)
                    self.assertIsNone(node.format_spec)
                if isinstance(node, ast.Compare):
                    for sign, side in zip(node.ops, node.comparators):
                        if isinstance(sign, (ast.Is, ast.IsNot)):
                            self.assertIn(getattr(side, "value", "else"), (None, True, False))

    def test_functions_and_classes(self):
        for name, tree in trees():
            for node in ast.walk(tree):
                if isinstance(node, ast.FunctionDef):
                    self.assertLessEqual(node.end_lineno - node.lineno + 1, 40)
                    self.assertEqual(node.decorator_list, [])
                    args = node.args
                    self.assertEqual((args.vararg, args.kwarg, args.kwonlyargs, args.posonlyargs), (None, None, [], []))
                if isinstance(node, ast.ClassDef):
                    self.assertIn(node, tree.body)
                    self.assertEqual((node.decorator_list, node.keywords), ([], []))
                    self.assertLessEqual(len(node.bases), 1)
                    for part in node.body:
                        self.assertIsInstance(part, (ast.FunctionDef, ast.Pass))

    def test_names(self):
        for name, tree in trees():
            bound = list(names_bound(tree))
            for word in bound:
                if word not in TWO_UNDERSCORES:
                    self.assertRegex(word, r"^[A-Za-z][A-Za-z0-9_]*$", name)
                    self.assertFalse(hasattr(builtins, word), (name, word))
            for node in ast.walk(tree):
                if isinstance(node, ast.Name) and node.id not in bound:
                    self.assertIn(node.id, BUILT_IN)

    def test_a_name_is_bound_once_at_a_files_top(self):
        for name, tree in trees():
            top = []
            for node in tree.body:
                if isinstance(node, ast.Assign):
                    top.append(node.targets[0].id)
                elif isinstance(node, ast.ImportFrom):
                    top.extend(alias.name for alias in node.names)
                elif isinstance(node, (ast.FunctionDef, ast.ClassDef)):
                    top.append(node.name)
                else:
                    self.assertIs(node, tree.body[0])
            self.assertEqual(len(top), len(set(top)))

    def test_no_parameter_or_local_is_called_like_what_stands_at_the_files_top(self):
        for name, tree in trees():
            top = {part.name for part in tree.body if isinstance(part, (ast.FunctionDef, ast.ClassDef))}
            for node in tree.body:
                if isinstance(node, ast.ImportFrom):
                    top.update(alias.name for alias in node.names)
                if isinstance(node, ast.Assign):
                    top.add(node.targets[0].id)
            for part in tree.body:
                if isinstance(part, (ast.FunctionDef, ast.ClassDef)):
                    for node in ast.walk(part):
                        if isinstance(node, ast.arg):
                            self.assertNotIn(node.arg, top, name)
                        if isinstance(node, ast.Name) and isinstance(node.ctx, ast.Store):
                            self.assertNotIn(node.id, top, name)

    def test_what_is_walked_at_once_is_not_kept(self):
        for name, tree in trees():
            free = set()
            for node in ast.walk(tree):
                if isinstance(node, (ast.For, ast.comprehension)):
                    free.add(id(node.iter))
                if isinstance(node, ast.Call) and node.args and isinstance(node.func, ast.Name):
                    if node.func.id in WALKERS:
                        free.add(id(node.args[0]))
                if isinstance(node, ast.Call) and isinstance(node.func, ast.Attribute) and node.func.attr == "join":
                    free.update(id(part) for part in node.args)
            for node in ast.walk(tree):
                if isinstance(node, ast.Call):
                    word = getattr(node.func, "id", getattr(node.func, "attr", ""))
                    if word in WALKED:
                        self.assertIn(id(node), free, (name, node.lineno))

    def test_sets(self):
        for name, tree in trees():
            for node in ast.walk(tree):
                self.assertNotIsInstance(node, ast.Set)
                if isinstance(node, ast.Name):
                    self.assertNotIn(node.id, ("set", "frozenset"), (name, node.lineno))

    def test_own_errors_are_taken_by_name(self):
        for name, tree in trees():
            for node in ast.walk(tree):
                if isinstance(node, ast.ExceptHandler):
                    self.assertIsInstance(node.type, ast.Name)
                    self.assertNotIn(node.type.id, BUILT_IN, (name, node.lineno))
                if isinstance(node, ast.Raise):
                    self.assertIsInstance(node.exc, ast.Call)

    def test_methods(self):
        own = set()
        values = set()
        for name, tree in trees():
            for node in ast.walk(tree):
                if isinstance(node, ast.ClassDef):
                    own.update(part.name for part in node.body if isinstance(part, ast.FunctionDef))
                if isinstance(node, ast.Attribute) and isinstance(node.ctx, ast.Store):
                    values.add(node.attr)
        self.assertEqual(own & values, set())
        for name, tree in trees():
            for node in ast.walk(tree):
                if isinstance(node, ast.Attribute):
                    self.assertIn(node.attr, METHODS | own | values)


if __name__ == "__main__":
    unittest.main()
