"""Holds the package's files to the small part of Python that they keep to, as far as a syntax tree shows it."""

import ast
import builtins
import pathlib
import re
import unittest

PACKAGE = pathlib.Path(__file__).resolve().parent.parent / "pileduel"

STATEMENTS = (
    ast.Assign, ast.AugAssign, ast.If, ast.While, ast.For, ast.Return, ast.Break, ast.Continue, ast.Pass,
    ast.Raise, ast.Try, ast.Expr, ast.FunctionDef, ast.ClassDef, ast.ImportFrom,
)
EXPRESSIONS = (
    ast.BoolOp, ast.BinOp, ast.UnaryOp, ast.Lambda, ast.IfExp, ast.Dict, ast.ListComp, ast.Compare, ast.Call,
    ast.JoinedStr, ast.FormattedValue, ast.Constant, ast.Attribute, ast.Subscript, ast.Name, ast.List, ast.Tuple,
    ast.Slice,
)
OWN_NAMES = set(
    "len range enumerate zip min max sum abs sorted reversed int str bool list tuple dict set isinstance ord repr"
    " any all divmod Exception ValueError KeyError IndexError LookupError ZeroDivisionError ArithmeticError OverflowError"
    " RuntimeError NotImplementedError StopIteration".split()
)
OWN_METHODS = set(
    "append clear copy count endswith extend find get index insert isalnum isalpha isdigit islower isspace isupper"
    " items join keys ljust lower lstrip partition pop remove replace reverse rfind rjust rpartition rsplit rstrip"
    " setdefault split splitlines startswith strip update upper values zfill bit_length __init__".split()
)
SPECIAL_METHODS = ("__init__", "__eq__", "__repr__", "__str__", "__len__")
WORDS_OUT = re.compile(
    r"\b(type|typing|typing_extensions|enum|Enum|IntEnum|StrEnum|Flag|IntFlag|Generic|Protocol|ABC|ABCMeta|namedtuple"
    r"|NamedTuple|TypedDict|TYPE_CHECKING|abstractmethod)\b|dataclass|overload|contextmanager"
)
NAMES_OUT = set(
    "register mro elements open input version_info with_traceback add_note attrgetter breakpoint builtins compile"
    " copyright credits delattr dir eval exec exit gc getattr globals hasattr help id importlib license locals"
    " methodcaller os quit setattr super vars sys frozenset chr format format_map".split()
)


def files():
    return sorted(path for path in PACKAGE.rglob("*") if path.is_file() and "__pycache__" not in path.parts)


def trees():
    return [(path, ast.parse(path.read_text(encoding="utf-8"))) for path in files()]


def nodes(kinds):
    return [(path, node) for path, tree in trees() for node in ast.walk(tree) if isinstance(node, kinds)]


def is_docstring(tree, node):
    return node is tree.body[0] and isinstance(node, ast.Expr) and isinstance(node.value, ast.Constant)


def names_bound(tree):
    bound = []
    for node in ast.walk(tree):
        if isinstance(node, ast.Name) and isinstance(node.ctx, ast.Store):
            bound.append(node.id)
        elif isinstance(node, ast.arg):
            bound.append(node.arg)
        elif isinstance(node, (ast.FunctionDef, ast.ClassDef)):
            bound.append(node.name)
        elif isinstance(node, ast.ImportFrom):
            bound.extend(alias.name for alias in node.names)
        elif isinstance(node, ast.ExceptHandler) and node.name:
            bound.append(node.name)
    return bound


def names_of_top(tree):
    top = []
    for node in tree.body:
        if isinstance(node, (ast.FunctionDef, ast.ClassDef)):
            top.append(node.name)
        elif isinstance(node, ast.Assign):
            top.append(node.targets[0].id)
    return top


def drawn_from(tree):
    return [node.module for node in tree.body if isinstance(node, ast.ImportFrom)]


class LanguageTest(unittest.TestCase):
    def where(self, path, node):
        return f"{path.name}:{node.lineno}"

    def test_files_are_plain(self):
        self.assertIn(PACKAGE / "__init__.py", files())
        for path in files():
            self.assertEqual(path.parent, PACKAGE)
            self.assertRegex(path.name, r"\A(__init__|[a-z][a-z0-9_]*)\.py\Z")
            self.assertNotIn(path.stem, dir(builtins))
            self.assertNotRegex(path.stem, r"\A(tests?|testing|test_.*|site|conftest|(site|user)customize)\Z")

    def test_signs_and_sizes(self):
        for path in files():
            text = path.read_bytes().decode("ascii")
            self.assertIsNone(re.search(r"[^\n -~]", text), path)
            self.assertIsNone(WORDS_OUT.search(text), path)
            rows = text.split("\n")
            self.assertLessEqual(len(rows), 400, path)
            self.assertLessEqual(max(len(row) for row in rows), 120, path)
        for path, node in nodes(ast.FunctionDef):
            self.assertLessEqual(node.end_lineno - node.lineno + 1, 40, self.where(path, node))

    def test_imports_are_the_packages_own(self):
        top = {f"pileduel.{path.stem}": names_of_top(tree) for path, tree in trees()}
        for path, tree in trees():
            for node in ast.walk(tree):
                if isinstance(node, ast.ImportFrom):
                    self.assertEqual(node.level, 0)
                    for alias in node.names:
                        self.assertIn(alias.name, top[node.module], self.where(path, node))
                        self.assertIsNone(alias.asname)

    def test_no_two_files_draw_from_one_another(self):
        left = {f"pileduel.{path.stem}": set(drawn_from(tree)) for path, tree in trees()}
        while left:
            free = [module for module, drawn in left.items() if not drawn & set(left)]
            self.assertTrue(free, left)
            for module in free:
                del left[module]

    def test_the_top_of_a_module(self):
        for path, tree in trees():
            for node in tree.body:
                plain = isinstance(node, (ast.ImportFrom, ast.FunctionDef, ast.ClassDef, ast.Assign))
                self.assertTrue(plain or is_docstring(tree, node), self.where(path, node))
                if isinstance(node, ast.Assign):
                    kinds = (ast.Constant, ast.Tuple, ast.List, ast.Dict, ast.Name, ast.UnaryOp)
                    self.assertIsInstance(node.value, kinds, self.where(path, node))
            names = names_of_top(tree)
            self.assertEqual(len(names), len(set(names)), path)

    def test_functions_and_classes_are_plain(self):
        for path, node in nodes((ast.FunctionDef, ast.Lambda)):
            args = node.args
            self.assertFalse(args.vararg or args.kwarg or args.kwonlyargs or args.posonlyargs, self.where(path, node))
            self.assertFalse([arg for arg in args.args if arg.annotation], self.where(path, node))
        for path, node in nodes((ast.FunctionDef, ast.ClassDef)):
            self.assertFalse(node.decorator_list, self.where(path, node))
        for path, node in nodes(ast.ClassDef):
            self.assertLessEqual(len(node.bases), 1)
            self.assertFalse(node.keywords)
            for part in node.body:
                self.assertIsInstance(part, (ast.FunctionDef, ast.Pass), self.where(path, part))

    def test_statements(self):
        for path, tree in trees():
            for node in ast.walk(tree):
                if not isinstance(node, ast.stmt) or is_docstring(tree, node):
                    continue
                self.assertIsInstance(node, STATEMENTS, self.where(path, node))
                if isinstance(node, ast.Assign):
                    self.assertEqual(len(node.targets), 1, self.where(path, node))
                    self.assertNotIsInstance(node.targets[0], (ast.Tuple, ast.List), self.where(path, node))
                elif isinstance(node, ast.Expr):
                    self.assertIsInstance(node.value, ast.Call, self.where(path, node))
                elif isinstance(node, (ast.For, ast.While)):
                    self.assertFalse(node.orelse, self.where(path, node))
                elif isinstance(node, ast.Try):
                    self.assertFalse(node.finalbody, self.where(path, node))

    def test_expressions(self):
        for path, node in nodes(ast.expr):
            self.assertIsInstance(node, EXPRESSIONS, self.where(path, node))
            if isinstance(node, ast.ListComp):
                self.assertEqual(len(node.generators), 1, self.where(path, node))
                self.assertLessEqual(len(node.generators[0].ifs), 1, self.where(path, node))
            elif isinstance(node, ast.BinOp):
                self.assertNotIsInstance(node.op, (ast.Div, ast.MatMult), self.where(path, node))
            elif isinstance(node, ast.FormattedValue):
                self.assertIsInstance(node.value, ast.Name, self.where(path, node))
                self.assertIsNone(node.format_spec, self.where(path, node))
            elif isinstance(node, ast.Constant):
                self.assertIn(node.value.__class__, (int, str, bool, type(None)), self.where(path, node))
                self.assertNotIn("%", str(node.value), self.where(path, node))
            elif isinstance(node, ast.Compare):
                for op, right in zip(node.ops, node.comparators):
                    if isinstance(op, (ast.Is, ast.IsNot)):
                        self.assertIsInstance(right, ast.Constant, self.where(path, node))

    def test_names(self):
        for path, tree in trees():
            bound = names_bound(tree)
            for name in bound:
                self.assertTrue(name in SPECIAL_METHODS or re.fullmatch(r"[A-Za-z]\w*", name), (path.name, name))
                self.assertNotIn(name, dir(builtins), path.name)
                self.assertNotIn(name, NAMES_OUT, path.name)
            for node in ast.walk(tree):
                if isinstance(node, ast.Name) and isinstance(node.ctx, ast.Load):
                    self.assertTrue(node.id in bound or node.id in OWN_NAMES, self.where(path, node))

    def test_no_local_is_called_like_an_import_or_a_class(self):
        for path, tree in trees():
            taken = [alias.name for node in tree.body if isinstance(node, ast.ImportFrom) for alias in node.names]
            taken += [node.name for node in tree.body if isinstance(node, ast.ClassDef)]
            for node in ast.walk(tree):
                if isinstance(node, ast.arg):
                    self.assertNotIn(node.arg, taken, self.where(path, node))
                elif isinstance(node, ast.Name) and isinstance(node.ctx, ast.Store):
                    self.assertNotIn(node.id, taken, self.where(path, node))

    def test_methods(self):
        own = {part.name for path, node in nodes(ast.ClassDef) for part in node.body if hasattr(part, "name")}
        for path, node in nodes(ast.Call):
            if isinstance(node.func, ast.Attribute):
                self.assertIn(node.func.attr, OWN_METHODS | own, self.where(path, node))
        for path, node in nodes(ast.Attribute):
            self.assertNotIn(node.attr, NAMES_OUT, self.where(path, node))

    def test_sets_are_used_on_the_spot(self):
        for path, tree in trees():
            spots = []
            for node in ast.walk(tree):
                if isinstance(node, ast.Call) and isinstance(node.func, ast.Name) and node.func.id in ("sorted", "len"):
                    if not node.keywords:
                        spots.extend(node.args)
            for node in ast.walk(tree):
                if isinstance(node, ast.Name) and node.id == "set":
                    used = [spot for spot in spots if isinstance(spot, ast.Call) and spot.func is node]
                    self.assertTrue(used, self.where(path, node))

    def test_what_a_loop_walks_is_not_changed_in_it(self):
        changing = ("append", "clear", "extend", "insert", "pop", "remove", "reverse", "setdefault", "update")
        for path, loop in nodes(ast.For):
            walked = {node.id for node in ast.walk(loop.iter) if isinstance(node, ast.Name)}
            for node in (inner for part in loop.body for inner in ast.walk(part)):
                if isinstance(node, ast.Call) and isinstance(node.func, ast.Attribute) and node.func.attr in changing:
                    if isinstance(node.func.value, ast.Name):
                        self.assertNotIn(node.func.value.id, walked, self.where(path, node))
                elif isinstance(node, ast.Subscript) and isinstance(node.ctx, ast.Store):
                    if isinstance(node.value, ast.Name):
                        self.assertNotIn(node.value.id, walked, self.where(path, node))

    def test_walked_at_once(self):
        for path, tree in trees():
            for node in ast.walk(tree):
                if isinstance(node, (ast.Assign, ast.Return)) and isinstance(node.value, ast.Call):
                    called = node.value.func
                    name = called.id if isinstance(called, ast.Name) else called.attr
                    walked = ("zip", "enumerate", "reversed", "range", "items", "keys", "values")
                    self.assertNotIn(name, walked, self.where(path, node))


if __name__ == "__main__":
    unittest.main()
