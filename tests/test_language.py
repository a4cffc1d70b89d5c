"""The package keeps to the small part of Python that it is written in: what of its rules can be seen in the files."""

import ast
import builtins
import re
import unittest
from pathlib import Path

PACKAGE = Path(__file__).resolve().parent.parent / "kinddeeds"

BUILTINS = set(
    "len range enumerate zip min max sum abs sorted reversed int str bool list tuple dict set frozenset isinstance"
    " ord repr any all divmod Exception ValueError TypeError KeyError IndexError LookupError ZeroDivisionError"
    " ArithmeticError OverflowError RuntimeError NotImplementedError AttributeError StopIteration".split()
)
METHODS = set(
    "append clear copy count endswith extend find get index insert isalnum isalpha isdigit islower isspace isupper"
    " items join keys ljust lower lstrip partition pop remove replace reverse rfind rjust rpartition rsplit rstrip"
    " setdefault split splitlines startswith strip update upper values zfill bit_length".split()
)
STATEMENTS = (
    ast.Assign, ast.AugAssign, ast.If, ast.While, ast.For, ast.Return, ast.Break, ast.Continue, ast.Pass, ast.Raise,
    ast.Try, ast.Expr, ast.FunctionDef, ast.ClassDef, ast.ImportFrom,
)
EXPRESSIONS = (
    ast.Constant, ast.Name, ast.Attribute, ast.Subscript, ast.Slice, ast.Call, ast.BinOp, ast.UnaryOp, ast.BoolOp,
    ast.Compare, ast.IfExp, ast.List, ast.Tuple, ast.Dict, ast.Set, ast.ListComp, ast.Lambda, ast.JoinedStr,
    ast.FormattedValue,
)
DUNDERS = {"__init__", "__eq__", "__repr__", "__str__", "__len__"}
NOWHERE = set("register mro elements open input version_info with_traceback add_note".split())
WORDS = re.compile(
    r"\b(type|typing|typing_extensions|enum|Enum|IntEnum|StrEnum|Flag|IntFlag|Generic|Protocol|ABC|ABCMeta|namedtuple"
    r"|NamedTuple|TypedDict|TYPE_CHECKING|abstractmethod)\b|dataclass|overload|contextmanager"
)
LAZY = {"zip", "enumerate", "reversed", "range"}
WALKERS = {"list", "tuple", "dict", "sorted", "sum", "any", "all", "enumerate", "zip", "min", "max"}


def files():
    return sorted(PACKAGE.rglob("*.py"))


def trees():
    return [(path.name, ast.parse(path.read_text())) for path in files()]


def nodes(*classes):
    return [(name, node) for name, tree in trees() for node in ast.walk(tree) if isinstance(node, classes)]


def called(node):
    return node.func.id if isinstance(node, ast.Call) and isinstance(node.func, ast.Name) else None


def words_bound(made):
    """The names that a statement at a file's top binds, but for imports."""
    if isinstance(made, ast.Assign):
        return [made.targets[0].id]
    return [made.name] if isinstance(made, (ast.FunctionDef, ast.ClassDef)) else []


class Language(unittest.TestCase):
    def each(self, found, good):
        for name, node in found:
            self.assertTrue(good(node), f"{name}:{getattr(node, 'lineno', 0)}: {ast.dump(node)}")

    def test_files(self):
        for path in PACKAGE.rglob("*"):
            self.assertTrue(path.name == "__pycache__" or path.suffix in (".py", ".pyc"), path)
        self.assertIn(PACKAGE / "__init__.py", files())
        for path in files():
            self.assertRegex(path.stem, r"^([a-z][a-z0-9_]*|__init__|__main__)$")
            self.assertNotIn(path.stem, dir(builtins))
            self.assertFalse(path.stem.startswith("test"))

    def test_sizes_and_signs(self):
        for path in files():
            lines = path.read_text().split("\n")
            self.assertLessEqual(len(lines), 400, path)
            for line in lines:
                self.assertLessEqual(len(line), 120, line)
                self.assertTrue(all(" " <= sign <= "~" for sign in line), line)
                self.assertIsNone(WORDS.search(line), line)
        self.each(nodes(ast.FunctionDef), lambda node: node.end_lineno - node.lineno < 40)

    def test_imports(self):
        for name, node in nodes(ast.ImportFrom):
            self.assertEqual(node.level, 0)
            self.assertTrue(node.module.startswith("kinddeeds."), node.module)
            defined = ast.parse((PACKAGE / (node.module.split(".")[1] + ".py")).read_text()).body
            for alias in node.names:
                self.assertIsNone(alias.asname)
                self.assertIn(alias.name, [word for made in defined for word in words_bound(made)])

    def test_top_of_a_module(self):
        for name, tree in trees():
            bound = []
            for place, node in enumerate(tree.body):
                if isinstance(node, ast.Expr):
                    self.assertTrue(place == 0 and isinstance(node.value, ast.Constant), name)
                elif isinstance(node, ast.Assign):
                    bound.append(node.targets[0].id)
                elif isinstance(node, ast.ImportFrom):
                    bound += [alias.name for alias in node.names]
                else:
                    self.assertIsInstance(node, (ast.FunctionDef, ast.ClassDef))
                    bound.append(node.name)
            self.assertEqual(len(bound), len(set(bound)), name)

    def test_functions_and_classes(self):
        for name, node in nodes(ast.FunctionDef, ast.Lambda):
            self.assertFalse(node.args.vararg or node.args.kwarg or node.args.kwonlyargs or node.args.posonlyargs)
            self.assertFalse(getattr(node, "decorator_list", []))
        for name, node in nodes(ast.ClassDef):
            self.assertFalse(node.decorator_list or node.keywords or len(node.bases) > 1)
            self.assertTrue(all(isinstance(part, (ast.FunctionDef, ast.Pass)) for part in node.body), node.name)
        self.each(nodes(ast.arg), lambda node: node.annotation is None)

    def test_statements_and_expressions(self):
        self.each(nodes(ast.stmt), lambda node: isinstance(node, STATEMENTS))
        self.each(nodes(ast.expr), lambda node: isinstance(node, EXPRESSIONS))
        self.each(nodes(ast.Assign), lambda node: len(node.targets) == 1 and not isinstance(node.targets[0], ast.Tuple))
        self.each(nodes(ast.For, ast.While), lambda node: not node.orelse)
        self.each(nodes(ast.ListComp), lambda node: len(node.generators) == 1 and len(node.generators[0].ifs) < 2)
        self.each(nodes(ast.Try), lambda node: not node.finalbody)
        self.each(nodes(ast.BinOp, ast.AugAssign), lambda node: not isinstance(node.op, (ast.Div, ast.MatMult)))
        self.each(nodes(ast.Constant), lambda node: node.value is None or isinstance(node.value, (int, str)))
        self.each(nodes(ast.Constant), lambda node: "%" not in str(node.value))
        for name, tree in trees():
            for node in tree.body:
                for inner in ast.walk(node):
                    if isinstance(inner, ast.Expr) and inner is not tree.body[0]:
                        self.assertIsInstance(inner.value, ast.Call, name)

    def test_is_beside_none_and_truths(self):
        for name, node in nodes(ast.Compare):
            if any(isinstance(sign, (ast.Is, ast.IsNot)) for sign in node.ops):
                sides = [node.left] + node.comparators
                plain = [isinstance(side, ast.Constant) and side.value in (None, True, False) for side in sides]
                self.assertTrue(any(plain), name)

    def test_names(self):
        bound = [(name, node.arg) for name, node in nodes(ast.arg)]
        bound += [(name, node.id) for name, node in nodes(ast.Name) if isinstance(node.ctx, ast.Store)]
        bound += [(name, node.name) for name, node in nodes(ast.FunctionDef, ast.ClassDef)]
        for name, word in bound:
            self.assertTrue(re.fullmatch(r"[A-Za-z][A-Za-z0-9_]*", word) or word in DUNDERS, word)
            self.assertNotIn(word, dir(builtins), name)
            self.assertNotIn(word, NOWHERE, name)
        for name, node in nodes(ast.Name):
            self.assertTrue(node.id in BUILTINS or node.id not in dir(builtins), (name, node.id))

    def test_no_local_is_called_like_an_import_or_a_class(self):
        for name, tree in trees():
            taken = [node.name for node in tree.body if isinstance(node, ast.ClassDef)]
            taken += [alias.name for node in tree.body if isinstance(node, ast.ImportFrom) for alias in node.names]
            for node in ast.walk(tree):
                if isinstance(node, ast.arg):
                    self.assertNotIn(node.arg, taken, name)
                elif isinstance(node, ast.Name) and isinstance(node.ctx, ast.Store):
                    self.assertNotIn(node.id, taken, name)

    def test_methods_and_values(self):
        methods = {
            part.name for name, node in nodes(ast.ClassDef) for part in node.body if isinstance(part, ast.FunctionDef)
        }
        values = {node.attr for name, node in nodes(ast.Attribute) if isinstance(node.ctx, ast.Store)}
        self.assertEqual(methods & values, set())
        own = (methods | values) - DUNDERS - METHODS - {"add", "discard"}
        for word in own:
            for python in (str, int, list, tuple, dict, set, frozenset, bytes):
                self.assertFalse(hasattr(python, word), word)
        for name, node in nodes(ast.Attribute):
            self.assertIn(node.attr, METHODS | methods | values, name)

    def test_files_do_not_draw_from_one_another(self):
        drawn = {name: set() for name, tree in trees()}
        for name, node in nodes(ast.ImportFrom):
            drawn[name].add(node.module.split(".")[1] + ".py")
        while drawn:
            ends = [name for name in drawn if not drawn[name] & set(drawn)]
            self.assertTrue(ends, f"a ring among {sorted(drawn)}")
            drawn = {name: drawn[name] for name in drawn if name not in ends}

    def plain(self, value, outermost):
        if isinstance(value, ast.Dict):
            return outermost and all(self.plain(part, False) for part in value.keys + value.values)
        if isinstance(value, ast.List):
            return outermost and all(self.plain(part, False) for part in value.elts)
        if isinstance(value, ast.Tuple):
            return all(self.plain(part, outermost) for part in value.elts)
        return isinstance(value, ast.Constant)

    def test_values_of_a_modules_top(self):
        for name, tree in trees():
            for node in tree.body:
                if isinstance(node, ast.Assign):
                    self.assertTrue(self.plain(node.value, True), (name, node.lineno))

    def test_sets_are_asked_on_the_spot(self):
        for name, tree in trees():
            asked = []
            for node in ast.walk(tree):
                if called(node) in ("len", "sorted") and not node.keywords:
                    asked += node.args
                elif isinstance(node, ast.Compare):
                    asked += [node.left] + node.comparators
            for node in ast.walk(tree):
                if called(node) in ("set", "frozenset") or isinstance(node, ast.Set):
                    self.assertIn(node, asked, (name, node.lineno))

    def test_exponents_are_written(self):
        for name, node in nodes(ast.BinOp, ast.AugAssign):
            if isinstance(node.op, ast.Pow):
                power = node.right if isinstance(node, ast.BinOp) else node.value
                self.assertTrue(isinstance(power, ast.Constant) and 0 <= power.value <= 64, (name, node.lineno))

    def test_classes_are_called_or_stand_by_isinstance(self):
        classes = {node.name for name, node in nodes(ast.ClassDef)}
        for name, tree in trees():
            good = []
            for node in ast.walk(tree):
                if isinstance(node, ast.Call):
                    good += [node.func] + (node.args[1:] if called(node) == "isinstance" else [])
                elif isinstance(node, ast.ClassDef):
                    good += node.bases
                elif isinstance(node, ast.ExceptHandler):
                    good.append(node.type)
                elif isinstance(node, ast.Attribute) and node.attr == "__init__":
                    good.append(node.value)
            for node in ast.walk(tree):
                if isinstance(node, ast.Name) and node.id in classes:
                    self.assertIn(node, good, (name, node.lineno))

    def test_lazy_ones_are_walked_at_once(self):
        for name, tree in trees():
            walked = []
            for node in ast.walk(tree):
                if isinstance(node, (ast.For, ast.comprehension)):
                    walked.append(node.iter)
                elif called(node) in WALKERS:
                    walked += node.args
            for node in ast.walk(tree):
                method = node.func.attr if isinstance(node, ast.Call) and isinstance(node.func, ast.Attribute) else None
                if called(node) in LAZY or method in ("items", "keys", "values"):
                    self.assertIn(node, walked, (name, node.lineno))


if __name__ == "__main__":
    unittest.main()
