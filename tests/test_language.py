"""The package keeps to the part of Python that it is written in: what of those rules a test can see."""

import ast
import builtins
import pathlib
import re
import unittest

PACKAGE = pathlib.Path(__file__).resolve().parent.parent / "makes"

OWN_NAMES = set(
    "len range enumerate zip min max sum abs sorted reversed int str bool list tuple dict set frozenset isinstance "
    "ord repr any all divmod Exception ValueError TypeError KeyError IndexError LookupError ZeroDivisionError "
    "ArithmeticError OverflowError RuntimeError NotImplementedError AttributeError StopIteration".split())
OWN_METHODS = set(
    "append clear copy count endswith extend find get index insert isalnum isalpha isdigit islower isspace isupper "
    "items join keys ljust lower lstrip partition pop remove replace reverse rfind rjust rpartition rsplit rstrip "
    "setdefault split splitlines startswith strip update upper values zfill bit_length".split())
TWO_UNDERSCORES = {"__init__", "__eq__", "__repr__", "__str__", "__len__"}
NAMES_NOT_USED = set(
    "register mro elements open input version_info with_traceback add_note attrgetter breakpoint builtins compile "
    "copyright credits delattr dir eval exec exit gc getattr globals hasattr help id importlib license locals "
    "methodcaller os quit setattr super type vars sys".split())
WORDS_NOT_USED = re.compile(
    r"\b(type|typing|typing_extensions|enum|Enum|IntEnum|StrEnum|Flag|IntFlag|Generic|Protocol|ABC|ABCMeta|namedtuple"
    r"|NamedTuple|TypedDict|TYPE_CHECKING|abstractmethod)\b|dataclass|overload|contextmanager")
STATEMENTS = (
    ast.Assign, ast.AugAssign, ast.AnnAssign, ast.If, ast.While, ast.For, ast.Return, ast.Break, ast.Continue, ast.Pass,
    ast.Raise, ast.Try, ast.Expr, ast.FunctionDef, ast.ClassDef, ast.ImportFrom, ast.Import)
TOPS = (ast.ImportFrom, ast.FunctionDef, ast.ClassDef, ast.Assign, ast.AnnAssign)
EXPRESSIONS_NOT_USED = (
    ast.SetComp, ast.DictComp, ast.GeneratorExp, ast.NamedExpr, ast.Starred, ast.Yield, ast.YieldFrom, ast.Await,
    ast.Div, ast.MatMult)
PLAIN = (ast.Constant, ast.List, ast.Tuple, ast.Dict, ast.Name, ast.Load, ast.UnaryOp, ast.USub, ast.BinOp, ast.Mult,
         ast.Pow)


def trees():
    return {path.stem: ast.parse(path.read_text("ascii")) for path in sorted(PACKAGE.glob("*.py"))}


def nodes(kind):
    return [(name, node) for name, tree in trees().items() for node in ast.walk(tree) if isinstance(node, kind)]


def bound_at_top(tree):
    names = []
    for node in tree.body:
        if isinstance(node, (ast.FunctionDef, ast.ClassDef)):
            names.append(node.name)
        if isinstance(node, ast.Assign):
            names.extend(target.id for target in node.targets)
        if isinstance(node, ast.AnnAssign):
            names.append(node.target.id)
        if isinstance(node, ast.ImportFrom):
            names.extend(alias.asname or alias.name for alias in node.names)
    return names


class Files(unittest.TestCase):
    def test_files(self):
        for path in PACKAGE.iterdir():
            if path.name != "__pycache__":
                self.assertRegex(path.name, r"^[a-z0-9_]+\.py$")
        self.assertTrue((PACKAGE / "__init__.py").is_file())

    def test_signs_and_sizes(self):
        for path in PACKAGE.glob("*.py"):
            text = path.read_bytes().decode("ascii")
            self.assertTrue(all(sign == "\n" or " " <= sign <= "~" for sign in text), path)
            self.assertLessEqual(len(text.splitlines()), 400, path)
            for line in text.splitlines():
                self.assertLessEqual(len(line), 120, path)

    def test_words_not_used(self):
        for path in PACKAGE.glob("*.py"):
            self.assertIsNone(WORDS_NOT_USED.search(path.read_text("ascii")), path)


class Imports(unittest.TestCase):
    def test_from_the_file_that_defines_the_name(self):
        all_trees = trees()
        for name, node in nodes((ast.Import, ast.ImportFrom)):
            if name == "__main__" and isinstance(node, ast.Import):
                self.assertEqual([alias.name for alias in node.names], ["sys"])
                continue
            self.assertIsInstance(node, ast.ImportFrom, name)
            if node.module == "__future__":
                continue
            self.assertEqual(node.level, 0, name)
            package, point, drawn = node.module.partition(".")
            self.assertEqual(package, "makes", name)
            for alias in node.names:
                own = [top for top in all_trees[drawn].body if not isinstance(top, ast.ImportFrom)]
                self.assertIn(alias.name, bound_at_top(ast.Module(own, [])), name)

    def test_no_two_draw_from_one_another(self):
        drawn = {name: set() for name in trees()}
        for name, node in nodes(ast.ImportFrom):
            drawn[name].add(node.module.partition(".")[2])
        while drawn:
            free = [name for name in drawn if not drawn[name] & set(drawn)]
            self.assertTrue(free, drawn)
            for name in free:
                del drawn[name]


class Forms(unittest.TestCase):
    def test_tops(self):
        for name, tree in trees().items():
            for node in tree.body if ast.get_docstring(tree) is None else tree.body[1:]:
                if name != "__main__":
                    self.assertIsInstance(node, TOPS, name)
                if isinstance(node, (ast.Assign, ast.AnnAssign)):
                    for part in ast.walk(node.value):
                        self.assertIsInstance(part, PLAIN, name)
            names = bound_at_top(tree)
            self.assertEqual(len(set(names)), len(names), name)

    def test_statements(self):
        for name, node in nodes(ast.stmt):
            self.assertIsInstance(node, STATEMENTS, (name, node.lineno))
            if isinstance(node, ast.Assign):
                self.assertEqual(len(node.targets), 1, (name, node.lineno))
            if isinstance(node, (ast.For, ast.While)):
                self.assertEqual(node.orelse, [], (name, node.lineno))
            if isinstance(node, ast.Try):
                self.assertEqual(node.finalbody, [], (name, node.lineno))

    def test_expressions(self):
        for name, node in nodes(EXPRESSIONS_NOT_USED):
            self.fail((name, node))
        for name, node in nodes(ast.ListComp):
            self.assertEqual(len(node.generators), 1, (name, node.lineno))
            self.assertLessEqual(len(node.generators[0].ifs), 1, (name, node.lineno))
        for name, node in nodes(ast.FormattedValue):
            self.assertIsInstance(node.value, ast.Name, (name, node.lineno))
        for name, node in nodes(ast.Constant):
            self.assertNotIsInstance(node.value, (float, bytes, complex), (name, node.lineno))
            if isinstance(node.value, str):
                self.assertNotIn("%", node.value, (name, node.lineno))

    def test_powers(self):
        for name, node in nodes(ast.BinOp):
            if isinstance(node.op, ast.Pow):
                self.assertIsInstance(node.right, ast.Constant, (name, node.lineno))

    def test_is(self):
        for name, node in nodes(ast.Compare):
            for op, other in zip(node.ops, node.comparators):
                if isinstance(op, (ast.Is, ast.IsNot)):
                    self.assertIsInstance(other, ast.Constant, (name, node.lineno))
                    self.assertIn(other.value, (None, True, False), (name, node.lineno))

    def test_functions(self):
        for name, node in nodes(ast.FunctionDef):
            where = (name, node.name)
            self.assertEqual(node.decorator_list, [], where)
            self.assertIsNone(node.args.vararg, where)
            self.assertIsNone(node.args.kwarg, where)
            self.assertEqual(node.args.kwonlyargs + node.args.posonlyargs, [], where)
            self.assertLessEqual(node.end_lineno - node.lineno + 1, 40, where)

    def test_classes(self):
        for name, node in nodes(ast.ClassDef):
            where = (name, node.name)
            self.assertEqual(node.decorator_list, [], where)
            self.assertLessEqual(len(node.bases) + len(node.keywords), 1, where)
            for part in node.body:
                self.assertIsInstance(part, (ast.FunctionDef, ast.Pass, ast.Expr), where)


class Names(unittest.TestCase):
    def test_names_that_are_read(self):
        pythons = set(dir(builtins)) - OWN_NAMES
        for name, node in nodes(ast.Name):
            if name == "__main__" and node.id in ("sys", "print", "__name__"):
                continue
            if node.id not in ("__all__", "__version__", "object", "float", "bytes"):
                self.assertNotIn(node.id, pythons | NAMES_NOT_USED, (name, node.lineno))
                self.assertRegex(node.id, r"^[A-Za-z]\w*$", (name, node.lineno))
            if isinstance(node.ctx, ast.Store):
                self.assertNotIn(node.id, OWN_NAMES, (name, node.lineno))

    def test_names_that_are_given(self):
        for name, node in nodes((ast.arg, ast.FunctionDef, ast.ClassDef)):
            given = node.arg if isinstance(node, ast.arg) else node.name
            if given not in TWO_UNDERSCORES:
                self.assertRegex(given, r"^[A-Za-z]\w*$", name)
                self.assertNotIn(given, NAMES_NOT_USED, name)
            if isinstance(node, ast.arg):
                self.assertNotIn(given, dir(builtins), name)

    def test_locals_are_called_like_no_class_or_import(self):
        for name, tree in trees().items():
            taken = {alias.asname or alias.name for node in tree.body if isinstance(node, ast.ImportFrom)
                     for alias in node.names}
            taken |= {node.name for node in tree.body if isinstance(node, ast.ClassDef)}
            for node in ast.walk(tree):
                if isinstance(node, ast.arg):
                    self.assertNotIn(node.arg, taken, name)
                if isinstance(node, ast.Name) and isinstance(node.ctx, ast.Store):
                    self.assertNotIn(node.id, taken, (name, node.lineno))

    def test_methods(self):
        own = {part.name for name, node in nodes(ast.ClassDef) for part in node.body if isinstance(part, ast.FunctionDef)}
        for name, node in nodes(ast.Call):
            if isinstance(node.func, ast.Attribute):
                self.assertIn(node.func.attr, own | OWN_METHODS | TWO_UNDERSCORES, (name, node.lineno))

    def test_no_name_is_both_a_method_and_a_value(self):
        own = {part.name for name, node in nodes(ast.ClassDef) for part in node.body if isinstance(part, ast.FunctionDef)}
        for name, node in nodes(ast.Attribute):
            if isinstance(node.ctx, ast.Store):
                self.assertNotIn(node.attr, own, (name, node.lineno))


if __name__ == "__main__":
    unittest.main()
