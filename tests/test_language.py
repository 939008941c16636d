"""The package keeps to LANGUAGE.md: those of its rules that can be seen in the code."""

import ast
import builtins
import keyword
import os
import re
import unittest

ROOT = os.path.join(os.path.dirname(os.path.dirname(os.path.abspath(__file__))), "stretchindex")
PYTHONS_NAMES = set("""len range enumerate zip min max sum abs sorted reversed int str bool list tuple dict set frozenset
isinstance ord repr any all divmod Exception ValueError TypeError KeyError IndexError LookupError ZeroDivisionError
ArithmeticError OverflowError RuntimeError NotImplementedError AttributeError StopIteration""".split())
METHODS = set("""append clear copy count endswith extend find get index insert isalnum isalpha isdigit islower isspace
isupper items join keys ljust lower lstrip partition pop remove replace reverse rfind rjust rpartition rsplit rstrip
setdefault split splitlines startswith strip update upper values zfill bit_length""".split())
NODES = (
    ast.Module, ast.FunctionDef, ast.ClassDef, ast.arguments, ast.arg, ast.ImportFrom, ast.alias, ast.Expr, ast.Assign,
    ast.AugAssign, ast.If, ast.While, ast.For, ast.Return, ast.Break, ast.Continue, ast.Pass, ast.Name, ast.Attribute,
    ast.Subscript, ast.Slice, ast.Call, ast.keyword, ast.Constant, ast.List, ast.Tuple, ast.Dict, ast.ListComp,
    ast.comprehension, ast.IfExp, ast.BoolOp, ast.UnaryOp, ast.BinOp, ast.Compare, ast.And, ast.Or, ast.Not, ast.USub,
    ast.Add, ast.Sub, ast.Mult, ast.FloorDiv, ast.Mod, ast.Eq, ast.NotEq, ast.Lt, ast.LtE, ast.Gt, ast.GtE, ast.Is,
    ast.IsNot, ast.In, ast.NotIn, ast.Load, ast.Store, ast.Lambda, ast.Raise, ast.Try, ast.ExceptHandler, ast.JoinedStr,
    ast.FormattedValue, ast.Pow, ast.BitAnd, ast.BitOr, ast.BitXor, ast.LShift, ast.RShift, ast.Invert,
)
BANNED_WORDS = re.compile(r"\b(type|typing|typing_extensions|enum|Enum|IntEnum|StrEnum|Flag|IntFlag|Generic|Protocol|ABC|"
                          r"ABCMeta|namedtuple|NamedTuple|TypedDict|TYPE_CHECKING|abstractmethod)\b|"
                          r"dataclass|overload|contextmanager")
BANNED_NAMES = set("""register mro elements open input version_info with_traceback add_note attrgetter breakpoint builtins
compile copyright credits delattr dir eval exec exit gc getattr globals hasattr help id importlib license locals
methodcaller os quit setattr super type vars sys print chr""".split())
LAZY = ("zip", "enumerate", "reversed", "range", "items", "keys", "values")
WALKERS = ("list", "tuple", "dict", "sorted", "sum", "any", "all", "enumerate", "zip", "min", "max")


def sources():
    names = sorted(name for name in os.listdir(ROOT) if name != "__pycache__")
    for name in names:
        with open(os.path.join(ROOT, name), encoding="utf-8", newline="") as file:
            yield name, file.read()


def trees():
    for name, text in sources():
        yield name, ast.parse(text)


def bound_names(tree):
    for node in ast.walk(tree):
        if isinstance(node, (ast.FunctionDef, ast.ClassDef)):
            yield node.name, node
        elif isinstance(node, ast.arg):
            yield node.arg, node
        elif isinstance(node, ast.Name) and isinstance(node.ctx, ast.Store):
            yield node.id, node


def called(node):
    if isinstance(node, ast.Call):
        if isinstance(node.func, ast.Attribute):
            return node.func.attr
        if isinstance(node.func, ast.Name):
            return node.func.id
    return None


def each_node():
    for name, tree in trees():
        for node in ast.walk(tree):
            yield (name, getattr(node, "lineno", 0)), node


class Language(unittest.TestCase):
    def test_files(self):
        names = [name for name, text in sources()]
        self.assertIn("__init__.py", names)
        for name in names:
            self.assertRegex(name, r"\A(__init__|[a-z][a-z0-9_]*)\.py\Z")
            stem = name[:-3]
            self.assertFalse(stem in dir(builtins) or keyword.iskeyword(stem) or stem.startswith("test"), name)

    def test_signs_and_sizes(self):
        for name, text in sources():
            with self.subTest(file=name):
                self.assertRegex(text, r"\A[ -~\n]*\Z")
                lines = text.split("\n")
                self.assertLessEqual(len(lines), 400)
                self.assertLessEqual(max(len(line) for line in lines), 120)
                self.assertIsNone(BANNED_WORDS.search(text))

    def test_only_these_forms(self):
        for where, node in each_node():
            with self.subTest(where):
                self.assertIsInstance(node, NODES)
                check = getattr(self, "check_" + type(node).__name__, None)
                if check is not None:
                    check(node)

    def check_FunctionDef(self, node):
        self.assertLessEqual(node.end_lineno - node.lineno + 1, 40, node.name)
        self.assertEqual(node.decorator_list, [])
        self.assertIsNone(node.args.vararg or node.args.kwarg or node.returns)
        self.assertEqual(node.args.kwonlyargs + node.args.posonlyargs, [])

    def check_arg(self, node):
        self.assertIsNone(node.annotation)

    def check_For(self, node):
        self.assertEqual(node.orelse, [])

    def check_While(self, node):
        self.assertEqual(node.orelse, [])

    def check_Try(self, node):
        self.assertEqual(node.finalbody, [])
        self.assertTrue(all(handler.type is not None for handler in node.handlers))

    def check_Assign(self, node):
        self.assertEqual(len(node.targets), 1)
        self.assertNotIsInstance(node.targets[0], (ast.Tuple, ast.List))

    def check_ListComp(self, node):
        self.assertEqual(len(node.generators), 1)
        self.assertLessEqual(len(node.generators[0].ifs), 1)

    def check_Constant(self, node):
        self.assertTrue(node.value is None or type(node.value) in (int, str, bool))
        self.assertFalse(isinstance(node.value, str) and "%" in node.value)

    def check_Compare(self, node):
        for operator, side in zip(node.ops, node.comparators):
            if isinstance(operator, (ast.Is, ast.IsNot)):
                self.assertIsInstance(side, ast.Constant)
                self.assertTrue(side.value is None or type(side.value) is bool)

    def test_names(self):
        for name, tree in trees():
            not_again = {alias.name for node in ast.walk(tree) if isinstance(node, ast.ImportFrom) for alias in node.names}
            not_again |= {node.name for node in ast.walk(tree) if isinstance(node, ast.ClassDef)} | set(dir(builtins))
            for bound, node in bound_names(tree):
                with self.subTest(file=name, line=node.lineno, bound=bound):
                    self.assertRegex(bound, r"\A([a-zA-Z][a-zA-Z0-9_]*|__init__)\Z")
                    self.assertNotIn(bound, BANNED_NAMES)
                    if not isinstance(node, ast.ClassDef):
                        self.assertNotIn(bound, not_again)
            for node in ast.walk(tree):
                if isinstance(node, ast.Name) and isinstance(node.ctx, ast.Load) and node.id in dir(builtins):
                    self.assertIn(node.id, PYTHONS_NAMES, (name, node.lineno))

    def test_attributes(self):
        values = set()
        methods = set()
        for name, tree in trees():
            for node in ast.walk(tree):
                if isinstance(node, ast.Attribute) and isinstance(node.ctx, ast.Store):
                    self.assertIsInstance(node.value, ast.Name, (name, node.lineno))
                    values.add(node.attr)
                if isinstance(node, ast.ClassDef):
                    self.assertTrue(all(isinstance(part, (ast.FunctionDef, ast.Expr)) for part in node.body))
                    methods |= {part.name for part in node.body if isinstance(part, ast.FunctionDef)}
        self.assertEqual(values & methods, set())
        for value in (0, "", [], {}, set(), b"", ()):
            self.assertEqual(values & set(dir(value)), set())
        for where, node in each_node():
            if isinstance(node, ast.Attribute):
                self.assertNotIn(node.attr, BANNED_NAMES, where)
            if isinstance(node, ast.Call) and isinstance(node.func, ast.Attribute):
                self.assertIn(node.func.attr, METHODS | methods, where)

    def test_top_of_each_module(self):
        for name, tree in trees():
            bound = [node.name for node in tree.body if isinstance(node, (ast.FunctionDef, ast.ClassDef))]
            self.assertTrue(ast.get_docstring(tree), name)
            defined = set()
            for node in tree.body[1:]:
                with self.subTest(file=name, line=node.lineno):
                    self.assertIsInstance(node, (ast.ImportFrom, ast.FunctionDef, ast.ClassDef, ast.Assign))
                if isinstance(node, ast.FunctionDef):
                    defined.add(node.name)
                if isinstance(node, ast.Assign):
                    bound.append(node.targets[0].id)
                    for part in ast.walk(node.value):
                        self.assertIsInstance(part, (ast.Constant, ast.UnaryOp, ast.USub, ast.Tuple, ast.List, ast.Dict,
                                                     ast.Name, ast.Load))
                        if isinstance(part, ast.Name):
                            self.assertIn(part.id, defined)
            self.assertEqual(len(bound), len(set(bound)))

    def test_imports(self):
        drawn = {}
        for name, tree in trees():
            drawn[name[:-3]] = []
            for node in ast.walk(tree):
                if isinstance(node, ast.ImportFrom):
                    self.assertIn(node, tree.body)
                    self.assertRegex(node.module, r"\Astretchindex\.[a-z_]+\Z")
                    self.assertEqual(node.level, 0)
                    self.assertTrue(all(alias.asname is None and alias.name != "*" for alias in node.names))
                    drawn[name[:-3]].append(node.module.split(".")[1])
        self.assertEqual(drawn["__init__"], [])
        done = set()
        while len(done) < len(drawn):
            ready = [name for name in drawn if name not in done and set(drawn[name]) <= done]
            self.assertTrue(ready, "files draw from one another")
            done.update(ready)

    def test_walked_on_the_spot(self):
        for name, tree in trees():
            fine = []
            for node in ast.walk(tree):
                if isinstance(node, (ast.For, ast.comprehension)):
                    fine.append(node.iter)
                if called(node) in WALKERS:
                    fine.extend(node.args)
            for node in ast.walk(tree):
                if called(node) in LAZY:
                    self.assertIn(node, fine, (name, node.lineno))


if __name__ == "__main__":
    unittest.main()
