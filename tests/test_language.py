"""Looks at the package's own files: those rules of the language's small part that a walk of the tree can see."""

import ast
import builtins
import pathlib
import re
import unittest

PACKAGE = pathlib.Path(__file__).resolve().parent.parent / "everywidth"

BUILT_IN = set(
    "len range enumerate zip min max sum abs sorted reversed int str bool list tuple dict set frozenset isinstance ord "
    "repr any all divmod Exception ValueError TypeError KeyError IndexError LookupError ZeroDivisionError "
    "ArithmeticError OverflowError RuntimeError NotImplementedError AttributeError StopIteration".split()
)
METHODS = set(
    "append clear copy count endswith extend find get index insert isalnum isalpha isdigit islower isspace isupper "
    "items join keys ljust lower lstrip partition pop remove replace reverse rfind rjust rpartition rsplit rstrip "
    "setdefault split splitlines startswith strip update upper values zfill bit_length".split()
)
FOREIGN_METHODS = {
    name for kind in (str, int, list, tuple, dict, set, frozenset, bytes) for name in vars(kind)
} - METHODS - {"add", "discard", "title"}
DUNDER = {"__init__", "__eq__", "__repr__", "__str__", "__len__"}
WORDS_OUT = re.compile(
    r"\b(type|typing|typing_extensions|enum|Enum|IntEnum|StrEnum|Flag|IntFlag|Generic|Protocol|ABC|ABCMeta|namedtuple|"
    r"NamedTuple|TypedDict|TYPE_CHECKING|abstractmethod)\b|dataclass|overload|contextmanager"
)
NAMES_OUT = set(
    "register mro elements open input version_info with_traceback add_note attrgetter breakpoint builtins compile "
    "copyright credits delattr dir eval exec exit gc getattr globals hasattr help id importlib license locals "
    "methodcaller os quit setattr super type vars sys __name__".split()
)
FILES_OUT = {"test", "tests", "testing", "site", "conftest", "sitecustomize", "usercustomize"} | set(dir(builtins))
NODES = (
    ast.Module, ast.FunctionDef, ast.ClassDef, ast.Return, ast.Assign, ast.AugAssign, ast.For, ast.While, ast.If,
    ast.Raise, ast.Try, ast.ExceptHandler, ast.ImportFrom, ast.alias, ast.Expr, ast.Pass, ast.Break, ast.Continue,
    ast.BoolOp, ast.BinOp, ast.UnaryOp, ast.Lambda, ast.IfExp, ast.Dict, ast.Set, ast.ListComp, ast.comprehension,
    ast.Compare, ast.Call, ast.keyword, ast.FormattedValue, ast.JoinedStr, ast.Constant, ast.Attribute, ast.Subscript,
    ast.Slice, ast.Name, ast.List, ast.Tuple, ast.arguments, ast.arg, ast.expr_context, ast.boolop, ast.operator,
    ast.unaryop, ast.cmpop,
)
WALKED = ("zip", "enumerate", "reversed", "range", "items", "keys", "values")
WALKERS = ("list", "tuple", "dict", "sorted", "sum", "any", "all", "enumerate", "zip", "min", "max")
CHANGING = ("append", "clear", "extend", "insert", "pop", "remove", "reverse", "setdefault", "update")
KEYWORDS = {
    "sorted": ("key", "reverse"), "min": ("key", "default"), "max": ("key", "default"), "sum": ("start",),
    "enumerate": ("start",), "zip": ("strict",),
}
TOP_NODES = (ast.ImportFrom, ast.FunctionDef, ast.ClassDef, ast.Assign)


def own_files():
    return sorted(path for path in PACKAGE.rglob("*") if path.is_file() and "__pycache__" not in path.parts)


def is_docstring(node):
    return isinstance(node, ast.Expr) and isinstance(node.value, ast.Constant) and isinstance(node.value.value, str)


def called(node):
    """The name of the function or the method that is called."""
    return getattr(node.func, "id", None) or getattr(node.func, "attr", None)


def imports_of(path):
    tree = ast.parse(path.read_text())
    return [node.module for node in ast.walk(tree) if isinstance(node, ast.ImportFrom)]


class FilesTest(unittest.TestCase):
    def test_names_of_files(self):
        self.assertTrue(own_files())
        for path in own_files():
            with self.subTest(path=path):
                self.assertEqual(path.suffix, ".py")
                self.assertTrue(re.fullmatch(r"[a-z][a-z0-9_]*|__init__|__main__", path.stem))
                self.assertNotIn(path.stem, FILES_OUT)
                self.assertFalse(path.stem.startswith("test_"))
                self.assertTrue((path.parent / "__init__.py").is_file())

    def test_signs_and_sizes(self):
        for path in own_files():
            lines = path.read_bytes().decode("utf-8").split("\n")
            self.assertLessEqual(len(lines), 400, path)
            for number, line in enumerate(lines, start=1):
                self.assertTrue(re.fullmatch(r"[ -~]{0,120}", line), f"{path}:{number}")
                self.assertIsNone(WORDS_OUT.search(line), f"{path}:{number}")

    def test_no_file_draws_from_itself(self):
        drawn = {}
        for path in own_files():
            module = ".".join(path.relative_to(PACKAGE.parent).with_suffix("").parts)
            drawn[module] = imports_of(path)
        for begin in drawn:
            seen, waiting = set(), list(drawn[begin])
            while waiting:
                module = waiting.pop()
                if module not in seen:
                    seen.add(module)
                    waiting.extend(drawn[module])
            self.assertNotIn(begin, seen)


class TreesTest(unittest.TestCase):
    def walk(self):
        for path in own_files():
            if path.name != "__main__.py":
                for node in ast.walk(ast.parse(path.read_text())):
                    yield node, f"{path}:{getattr(node, 'lineno', 0)}"

    def test_nodes(self):
        for node, place in self.walk():
            self.assertIsInstance(node, NODES, place)
            if isinstance(node, (ast.For, ast.While)):
                self.assertEqual(node.orelse, [], place)
            if isinstance(node, ast.Try):
                self.assertEqual(node.finalbody, [], place)
            if isinstance(node, ast.Assign):
                self.assertEqual(len(node.targets), 1, place)
            if isinstance(node, ast.ListComp):
                self.assertEqual(len(node.generators), 1, place)
                self.assertLessEqual(len(node.generators[0].ifs), 1, place)
            if isinstance(node, ast.Expr) and not is_docstring(node):
                self.assertIsInstance(node.value, ast.Call, place)

    def test_tops(self):
        for path in own_files():
            if path.name == "__main__.py":
                continue
            body = ast.parse(path.read_text()).body
            self.assertTrue(is_docstring(body[0]), path)
            bound = []
            for node in body[1:]:
                self.assertIsInstance(node, TOP_NODES, f"{path}:{node.lineno}")
                if isinstance(node, ast.ImportFrom):
                    bound.extend(alias.name for alias in node.names)
                elif isinstance(node, ast.Assign):
                    bound.append(node.targets[0].id)
                else:
                    bound.append(node.name)
            self.assertEqual(len(bound), len(set(bound)), path)

    def test_imports(self):
        for node, place in self.walk():
            if isinstance(node, ast.ImportFrom):
                self.assertEqual(node.col_offset, 0, place)
                self.assertEqual(node.level, 0, place)
                self.assertTrue(node.module.startswith("everywidth."), place)
                source = PACKAGE.parent.joinpath(*node.module.split(".")).with_suffix(".py")
                self.assertTrue(source.is_file(), place)
                defined = [top.name for top in ast.parse(source.read_text()).body if hasattr(top, "name")]
                defined += [top.targets[0].id for top in ast.parse(source.read_text()).body if hasattr(top, "targets")]
                for alias in node.names:
                    self.assertIn(alias.name, defined, place)

    def test_functions_and_classes(self):
        for node, place in self.walk():
            if isinstance(node, ast.FunctionDef):
                self.assertLessEqual(node.end_lineno - node.lineno + 1, 40, place)
                self.assertEqual(node.decorator_list, [], place)
                arguments = node.args
                self.assertFalse(arguments.vararg or arguments.kwarg or arguments.kwonlyargs, place)
                self.assertFalse(arguments.posonlyargs, place)
            if isinstance(node, ast.ClassDef):
                self.assertEqual(node.col_offset, 0, place)
                self.assertEqual((node.decorator_list, node.keywords), ([], []), place)
                self.assertLessEqual(len(node.bases), 1, place)
                for part in node.body:
                    self.assertTrue(is_docstring(part) or isinstance(part, (ast.FunctionDef, ast.Pass)), place)

    def test_names(self):
        for node, place in self.walk():
            bound = None
            if isinstance(node, ast.Name):
                if node.id in dir(builtins):
                    self.assertIn(node.id, BUILT_IN, place)
                    self.assertIsInstance(node.ctx, ast.Load, place)
                bound = node.id
            elif isinstance(node, ast.arg):
                self.assertNotIn(node.arg, dir(builtins), place)
                bound = node.arg
            elif isinstance(node, (ast.FunctionDef, ast.ClassDef)):
                bound = node.name
            elif isinstance(node, ast.Attribute):
                bound = node.attr
                self.assertNotIn(bound, FOREIGN_METHODS - DUNDER, place)
            if bound is not None and bound not in DUNDER:
                self.assertTrue(re.fullmatch(r"[A-Za-z][A-Za-z0-9_]*", bound), place)
                self.assertNotIn(bound, NAMES_OUT, place)

    def test_values(self):
        for node, place in self.walk():
            if isinstance(node, ast.Constant):
                self.assertIn(node.value.__class__, (int, str, bool, type(None)), place)
                if isinstance(node.value, str):
                    self.assertNotIn("%", node.value, place)
            if isinstance(node, (ast.BinOp, ast.AugAssign)):
                self.assertNotIsInstance(node.op, (ast.Div, ast.MatMult), place)
                if isinstance(node.op, ast.Pow):
                    exponent = node.right if isinstance(node, ast.BinOp) else node.value
                    self.assertIsInstance(exponent, ast.Constant, place)
                    self.assertTrue(0 <= exponent.value <= 64, place)
            if isinstance(node, ast.FormattedValue):
                self.assertIsInstance(node.value, ast.Name, place)
                self.assertIsNone(node.format_spec, place)
            if isinstance(node, ast.Compare):
                for op, side in zip(node.ops, node.comparators):
                    if isinstance(op, (ast.Is, ast.IsNot)):
                        self.assertIsInstance(side, ast.Constant, place)

    def test_locals_are_not_called_like_classes_and_imports(self):
        for path in own_files():
            tree = ast.parse(path.read_text())
            bound = {top.name for top in tree.body if isinstance(top, ast.ClassDef)}
            bound |= {alias.asname or alias.name for top in tree.body if hasattr(top, "names") for alias in top.names}
            for top in tree.body:
                for node in ast.walk(top):
                    if isinstance(node, ast.arg):
                        self.assertNotIn(node.arg, bound, f"{path}:{node.lineno}")
                    if isinstance(node, ast.Name) and isinstance(node.ctx, ast.Store):
                        self.assertNotIn(node.id, bound, f"{path}:{node.lineno}")

    def test_walked_at_once(self):
        for path in own_files():
            tree = ast.parse(path.read_text())
            walked = set()
            for node in ast.walk(tree):
                if isinstance(node, (ast.For, ast.comprehension)):
                    walked.add(id(node.iter))
                if isinstance(node, ast.Call) and node.args and getattr(node.func, "id", None) in WALKERS:
                    walked.update(id(argument) for argument in node.args)
                if isinstance(node, ast.Call) and getattr(node.func, "attr", None) == "join":
                    walked.update(id(argument) for argument in node.args)
            for node in ast.walk(tree):
                if isinstance(node, ast.Call) and called(node) in WALKED:
                    self.assertIn(id(node), walked, f"{path}:{node.lineno}")

    def test_errors_taken(self):
        for node, place in self.walk():
            if isinstance(node, ast.ExceptHandler):
                self.assertIsNotNone(node.type, place)
                for taken in ast.walk(node.type):
                    if isinstance(taken, ast.Name):
                        self.assertNotIn(taken.id, ("Exception", "TypeError"), place)

    def test_nothing_is_changed_while_it_is_walked(self):
        for node, place in self.walk():
            if not isinstance(node, ast.For):
                continue
            walked = {part.id for part in ast.walk(node.iter) if isinstance(part, ast.Name)}
            for part in [inner for row in node.body for inner in ast.walk(row)]:
                changed = None
                if isinstance(part, ast.Call) and called(part) in CHANGING and isinstance(part.func, ast.Attribute):
                    changed = part.func.value
                if isinstance(part, ast.Subscript) and isinstance(part.ctx, ast.Store):
                    changed = part.value
                if isinstance(changed, ast.Name):
                    self.assertNotIn(changed.id, walked, place)

    def test_keywords(self):
        for node, place in self.walk():
            if isinstance(node, ast.Call):
                for keyword in node.keywords:
                    self.assertIn(keyword.arg, KEYWORDS.get(called(node), ()), place)

    def test_lists_and_dicts_of_the_top_are_flat(self):
        for path in own_files():
            for top in ast.parse(path.read_text()).body:
                if isinstance(top, ast.Assign) and isinstance(top.value, (ast.List, ast.Dict)):
                    inner = list(ast.walk(top.value))[1:]
                    self.assertFalse([node for node in inner if isinstance(node, (ast.List, ast.Dict))], path)

    def test_one_lambda_a_line(self):
        for path in own_files():
            lines = [node.lineno for node in ast.walk(ast.parse(path.read_text())) if isinstance(node, ast.Lambda)]
            self.assertEqual(len(lines), len(set(lines)), path)

    def test_sets(self):
        for path in own_files():
            tree = ast.parse(path.read_text())
            asked = set()
            for node in ast.walk(tree):
                if isinstance(node, ast.Compare):
                    asked.update(id(part) for side in [node.left] + node.comparators for part in ast.walk(side))
                if isinstance(node, ast.Call) and called(node) in ("sorted", "len"):
                    asked.update(id(part) for argument in node.args for part in ast.walk(argument))
            for node in ast.walk(tree):
                if isinstance(node, ast.Set) or isinstance(node, ast.Call) and called(node) in ("set", "frozenset"):
                    self.assertIn(id(node), asked, f"{path}:{node.lineno}")


if __name__ == "__main__":
    unittest.main()
