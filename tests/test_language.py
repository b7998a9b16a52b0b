"""What can be seen by a simple look of the rules that the program's files keep to."""

import ast
import builtins
import pathlib
import re
import unittest

ROOT = pathlib.Path(__file__).resolve().parent.parent
PACKAGE = ROOT / "skylanes"
FILES = sorted(path for path in PACKAGE.rglob("*") if path.is_file() and "__pycache__" not in path.parts)

NODES = (
    ast.Module, ast.FunctionDef, ast.ClassDef, ast.arguments, ast.arg, ast.Import, ast.ImportFrom, ast.alias,
    ast.Assign, ast.AugAssign, ast.Expr, ast.If, ast.While, ast.For, ast.Return, ast.Break, ast.Continue,
    ast.Pass, ast.Raise, ast.Try, ast.ExceptHandler, ast.Assert, ast.Delete, ast.Name, ast.Constant, ast.List,
    ast.Tuple, ast.Dict, ast.Set, ast.BinOp, ast.BoolOp, ast.UnaryOp, ast.Compare, ast.IfExp, ast.Call,
    ast.Attribute, ast.Subscript, ast.Slice, ast.ListComp, ast.DictComp, ast.SetComp, ast.comprehension,
    ast.JoinedStr, ast.FormattedValue, ast.Lambda, ast.Starred, ast.keyword, ast.expr_context, ast.boolop,
    ast.operator, ast.unaryop, ast.cmpop,
)
OWN = set("""len range enumerate zip min max sum abs sorted reversed int str bool bytes list tuple dict set
    frozenset isinstance ord repr any all divmod Exception ValueError TypeError KeyError IndexError LookupError
    ZeroDivisionError ArithmeticError OverflowError RuntimeError NotImplementedError AttributeError
    StopIteration""".split())
METHODS = set("""append clear copy count endswith extend find get index insert isalnum isalpha isdigit islower
    isspace isupper items join keys ljust lower lstrip partition pop remove replace reverse rfind rjust
    rpartition rsplit rstrip setdefault split splitlines startswith strip update upper values zfill bit_length
    add discard sort""".split())
WORDS = re.compile(r"\b(type|typing|typing_extensions|enum|Enum|IntEnum|StrEnum|Flag|IntFlag|Generic|Protocol|ABC"
                   r"|ABCMeta|namedtuple|NamedTuple|TypedDict|TYPE_CHECKING|abstractmethod)\b"
                   r"|dataclass|overload|contextmanager")
WALKED = set("zip enumerate reversed range items keys values".split())
UNUSED = set("register mro elements open input version_info with_traceback add_note format format_map".split())


def walked():
    for path in FILES:
        tree = ast.parse(path.read_text())
        for node in ast.walk(tree):
            yield path.name, tree, node


def given_names(node):
    """The names that a def or a lambda gives: parameters, locals, loops."""
    told = []
    for inner in ast.walk(node):
        if isinstance(inner, ast.arg):
            told.append(inner.arg)
        elif isinstance(inner, ast.Name) and not isinstance(inner.ctx, ast.Load):
            told.append(inner.id)
    return told


class Language(unittest.TestCase):
    def test_files(self):
        self.assertIn(PACKAGE / "__init__.py", FILES)
        for path in FILES:
            self.assertEqual(path.suffix, ".py")
            self.assertRegex(path.name, r"^([a-z][a-z0-9_]*|__init__|__main__)\.py$")
            text = path.read_text()
            self.assertFalse([sign for sign in text if sign != "\n" and not " " <= sign <= "~"], path.name)
            rows = text.split("\n")
            self.assertLessEqual(len(rows), 400, path.name)
            self.assertLessEqual(max(len(row) for row in rows), 120, path.name)
            self.assertIsNone(WORDS.search(text), path.name)

    def test_defs_are_short(self):
        for name, _, node in walked():
            if isinstance(node, ast.FunctionDef):
                self.assertLessEqual(node.end_lineno - node.lineno + 1, 40, (name, node.name))
                self.assertFalse(node.decorator_list, (name, node.name))
                self.assertFalse(node.args.vararg or node.args.kwarg or node.args.posonlyargs, (name, node.name))

    def test_forms(self):
        for name, _, node in walked():
            self.assertIsInstance(node, NODES, (name, getattr(node, "lineno", 0)))
            if isinstance(node, (ast.For, ast.While)):
                self.assertFalse(node.orelse, (name, node.lineno))
            if isinstance(node, ast.BinOp):
                self.assertNotIsInstance(node.op, (ast.Div, ast.MatMult), (name, node.lineno))
            if isinstance(node, ast.Constant):
                self.assertIsInstance(node.value, (int, str, bytes, type(None)), (name, node.lineno))
                self.assertFalse(isinstance(node.value, str) and "%" in node.value, (name, node.lineno))
            if isinstance(node, ast.Compare):
                for sign, thing in zip(node.ops, node.comparators):
                    if isinstance(sign, (ast.Is, ast.IsNot)):
                        self.assertIsInstance(thing, ast.Constant, (name, node.lineno))

    def test_imports(self):
        for name, tree, node in walked():
            if isinstance(node, ast.Import):
                self.assertEqual(name, "__main__.py")
            if isinstance(node, ast.ImportFrom):
                self.assertIn(node, tree.body, name)
                self.assertEqual(node.level, 0, name)
                self.assertRegex(node.module, r"^skylanes\.[a-z]+$")
                defined = ast.parse((PACKAGE / (node.module.split(".")[1] + ".py")).read_text()).body
                names = {row.name for row in defined if isinstance(row, (ast.FunctionDef, ast.ClassDef))}
                names |= {row.targets[0].id for row in defined if isinstance(row, ast.Assign)}
                for alias in node.names:
                    self.assertIn(alias.name, names, (name, node.module))
                    self.assertIsNone(alias.asname, name)

    def test_imports_are_used_and_bound_once(self):
        for path in FILES:
            tree = ast.parse(path.read_text())
            bound = [alias.name for row in tree.body if isinstance(row, ast.ImportFrom) for alias in row.names]
            read = {node.id for node in ast.walk(tree) if isinstance(node, ast.Name)}
            self.assertFalse(set(bound) - read, path.name)
            bound += [row.name for row in tree.body if isinstance(row, (ast.FunctionDef, ast.ClassDef))]
            bound += [row.targets[0].id for row in tree.body if isinstance(row, ast.Assign)]
            self.assertEqual(len(bound), len(set(bound)), path.name)

    def test_names(self):
        own = set(dir(builtins))
        for path in FILES:
            tree = ast.parse(path.read_text())
            tops = {alias.name for row in tree.body if isinstance(row, ast.ImportFrom) for alias in row.names}
            tops |= {row.name for row in tree.body if isinstance(row, (ast.FunctionDef, ast.ClassDef))}
            for node in ast.walk(tree):
                if isinstance(node, ast.Name) and node.id in own:
                    self.assertIn(node.id, OWN, (path.name, node.lineno))
                if isinstance(node, ast.Name):
                    self.assertFalse(node.id.startswith("_") or node.id in UNUSED, (path.name, node.id))
                if isinstance(node, ast.Attribute):
                    self.assertNotIn(node.attr, UNUSED, path.name)
                if isinstance(node, (ast.FunctionDef, ast.Lambda)):
                    for name in given_names(node):
                        self.assertNotIn(name, own | tops | UNUSED, (path.name, node.lineno))

    def test_walked_at_once(self):
        for name, _, node in walked():
            if isinstance(node, (ast.Assign, ast.AugAssign, ast.Return, ast.List, ast.Tuple)):
                for value in getattr(node, "elts", [getattr(node, "value", None)]):
                    if isinstance(value, ast.Call):
                        called = getattr(value.func, "id", getattr(value.func, "attr", None))
                        self.assertNotIn(called, WALKED, (name, value.lineno))

    def test_methods(self):
        defined = {node.name for _, _, node in walked() if isinstance(node, ast.FunctionDef)}
        for name, _, node in walked():
            if isinstance(node, ast.Call) and isinstance(node.func, ast.Attribute):
                self.assertIn(node.func.attr, METHODS | defined, (name, node.lineno))


if __name__ == "__main__":
    unittest.main()
