"""The package keeps to the language's rules, as far as they are plain to see in its files."""

import ast
import pathlib
import re
import unittest
import warnings

PACKAGE = pathlib.Path(__file__).resolve().parent.parent / "lagworks"
BUILTINS = set("""len range enumerate zip min max sum abs sorted reversed int str bool bytes list tuple dict set frozenset
isinstance ord repr any all divmod Exception ValueError TypeError KeyError IndexError LookupError ZeroDivisionError
ArithmeticError OverflowError RuntimeError NotImplementedError AttributeError StopIteration NotImplemented""".split())
ALL_BUILTINS = set(dir(__builtins__) if not isinstance(__builtins__, dict) else __builtins__)
DUNDERS = set("__init__ __eq__ __repr__ __str__ __len__ __enter__ __exit__ __call__ __iter__".split())
BARRED_WORDS = """type typing typing_extensions enum Enum IntEnum StrEnum Flag IntFlag Generic Protocol ABC ABCMeta
namedtuple NamedTuple TypedDict TYPE_CHECKING abstractmethod""".split()
BARRED_PARTS = ["dataclass", "overload", "contextmanager"]
BARRED_NAMES = """register mro elements open input version_info with_traceback add_note attrgetter breakpoint builtins
compile copyright credits delattr dir eval exec exit gc getattr globals hasattr help id importlib license locals
methodcaller os quit setattr super type vars sys chr print""".split()
METHODS = set("""append clear copy count endswith extend find get index insert isalnum isalpha isdigit islower isspace
isupper items join keys ljust lower lstrip partition pop remove replace reverse rfind rjust rpartition rsplit rstrip
setdefault split splitlines startswith strip update upper values zfill bit_length""".split())
BARRED_NODES = (ast.Global, ast.AsyncFunctionDef, ast.AsyncFor, ast.AsyncWith, ast.Await, ast.Div, ast.MatMult,
                ast.Import)


def files():
    return sorted(PACKAGE.rglob("*.py"))


def trees():
    return [(path.name, ast.parse(path.read_text("ascii"))) for path in files()]


def bound_names(tree):
    """(line, name) of all that a file binds by names."""
    for node in ast.walk(tree):
        if isinstance(node, ast.Name) and isinstance(node.ctx, ast.Store):
            yield node.lineno, node.id
        elif isinstance(node, ast.arg):
            yield node.lineno, node.arg
        elif isinstance(node, (ast.FunctionDef, ast.ClassDef)):
            yield node.lineno, node.name


class Files(unittest.TestCase):
    def test_folder(self):
        names = [path.name for path in PACKAGE.iterdir() if path.name != "__pycache__"]
        self.assertIn("__init__.py", names)
        for name in names:
            self.assertRegex(name, r"\A([a-z0-9_]+)\.py\Z")
        self.assertLessEqual(len(names), 100)

    def test_signs_and_sizes(self):
        for path in files():
            text = path.read_bytes().decode("ascii")
            self.assertEqual(set(re.findall(r"[^\n -~]", text)), set(), path.name)
            rows = text.split("\n")
            self.assertLessEqual(len(rows), 400, path.name)
            self.assertLessEqual(max(map(len, rows)), 120, path.name)

    def test_barred_words(self):
        for path in files():
            words = re.findall(r"\w+", path.read_text())
            self.assertEqual([word for word in words if word in BARRED_WORDS], [], path.name)
            self.assertEqual([part for part in BARRED_PARTS if part in path.read_text()], [], path.name)

    def test_no_warnings(self):
        for path in files():
            with warnings.catch_warnings():
                warnings.simplefilter("error")
                compile(path.read_text(), str(path), "exec")


class Rows(unittest.TestCase):
    def test_functions_are_short(self):
        for name, tree in trees():
            for node in ast.walk(tree):
                if isinstance(node, ast.FunctionDef):
                    self.assertLessEqual(node.end_lineno - node.lineno + 1, 40, (name, node.name))
                    self.assertFalse(node.args.posonlyargs, (name, node.name))

    def test_module_level(self):
        for name, tree in trees():
            for node in tree.body:
                plain = isinstance(node, (ast.ImportFrom, ast.FunctionDef, ast.ClassDef, ast.Assign))
                docstring = isinstance(node, ast.Expr) and isinstance(node.value, ast.Constant)
                self.assertTrue(plain or docstring, (name, node.lineno))

    def test_imports(self):
        for name, tree in trees():
            for node in ast.walk(tree):
                if isinstance(node, ast.ImportFrom):
                    self.assertEqual(node.level, 0, (name, node.lineno))
                    self.assertRegex(node.module, r"\Alagworks\.\w+\Z", (name, node.lineno))
                    self.assertTrue(all(told.name != "*" for told in node.names), (name, node.lineno))
                    self.assertIn(node, tree.body, (name, node.lineno))

    def test_no_rings_of_imports(self):
        needs = {name[:-3]: {node.module.split(".")[1] for node in tree.body if isinstance(node, ast.ImportFrom)}
                 for name, tree in trees()}
        while needs:
            free = [name for name in needs if not needs[name] & needs.keys()]
            self.assertTrue(free, needs)
            needs = {name: needs[name] for name in needs if name not in free}

    def test_barred_code(self):
        for name, tree in trees():
            for node in ast.walk(tree):
                self.assertNotIsInstance(node, BARRED_NODES, (name, getattr(node, "lineno", 0)))
                if isinstance(node, ast.Constant):
                    self.assertNotIsInstance(node.value, (float, complex), (name, node.lineno))
                    self.assertFalse(isinstance(node.value, str) and "%" in node.value, (name, node.lineno))
                if isinstance(node, ast.BinOp) and isinstance(node.op, ast.Pow):
                    self.assertIsInstance(node.right, ast.Constant, (name, node.lineno))
                if isinstance(node, ast.Compare) and any(isinstance(op, (ast.Is, ast.IsNot)) for op in node.ops):
                    self.assertIn(ast.unparse(node.comparators[0]), ("None", "True", "False"), (name, node.lineno))

    def test_names(self):
        for name, tree in trees():
            imported = {told.asname or told.name for node in tree.body if isinstance(node, ast.ImportFrom)
                        for told in node.names}
            for line, bound in bound_names(tree):
                self.assertTrue(bound in DUNDERS or not bound.startswith("_"), (name, line, bound))
                self.assertNotIn(bound, BARRED_NAMES, (name, line))
                self.assertNotIn(bound, ALL_BUILTINS, (name, line))
                self.assertNotIn(bound, imported, (name, line))

    def test_methods_and_attributes(self):
        own_methods, own_attributes = set(), set()
        for name, tree in trees():
            for node in ast.walk(tree):
                if isinstance(node, ast.ClassDef):
                    own_methods |= {row.name for row in node.body if isinstance(row, ast.FunctionDef)}
                if isinstance(node, ast.Attribute) and isinstance(node.ctx, ast.Store):
                    own_attributes.add(node.attr)
        self.assertEqual(own_methods & own_attributes, set())
        for name, tree in trees():
            for node in ast.walk(tree):
                if isinstance(node, ast.Attribute):
                    self.assertIn(node.attr, METHODS | own_methods | own_attributes, (name, node.lineno))

    def test_module_values(self):
        """Lists and dicts there hold no lists and dicts, and each name is bound once."""
        for name, tree in trees():
            for node in tree.body:
                if isinstance(node, ast.Assign):
                    held = [one for one in ast.walk(node.value) if isinstance(one, (ast.List, ast.Dict))]
                    self.assertLessEqual(len(held), 1, (name, node.lineno))
            bound = [told.id for node in tree.body if isinstance(node, ast.Assign) for told in node.targets]
            bound += [node.name for node in tree.body if isinstance(node, (ast.FunctionDef, ast.ClassDef))]
            bound += [told.name for node in tree.body if isinstance(node, ast.ImportFrom) for told in node.names]
            self.assertEqual(len(bound), len(set(bound)), name)

    def test_imports_name_the_file_that_defines(self):
        own = {name[:-3]: {told for line, told in bound_names(tree)} for name, tree in trees()}
        for name, tree in trees():
            for node in tree.body:
                if isinstance(node, ast.ImportFrom):
                    for told in node.names:
                        self.assertIn(told.name, own[node.module.split(".")[1]], (name, node.lineno))

    def test_beside_own_comparing(self):
        """Classes compare and have lengths: no generators in any and the like, nothing sorted in place."""
        for name, tree in trees():
            for node in ast.walk(tree):
                if isinstance(node, ast.Call) and isinstance(node.func, ast.Name):
                    if node.func.id in ("any", "all", "min", "max", "sum", "sorted"):
                        self.assertFalse(any(isinstance(one, ast.GeneratorExp) for one in node.args), (name, node.lineno))
                if isinstance(node, ast.Attribute):
                    self.assertNotEqual(node.attr, "sort", (name, node.lineno))

    def test_double_underscore_methods_change_nothing(self):
        kinds = (ast.Assign, ast.AugAssign, ast.Delete, ast.NamedExpr)
        for name, tree in trees():
            for node in ast.walk(tree):
                if isinstance(node, ast.FunctionDef) and node.name in ("__eq__", "__repr__", "__str__", "__len__"):
                    self.assertFalse(any(isinstance(one, kinds) for one in ast.walk(node)), (name, node.lineno))
                    self.assertIsInstance(node.body[-1], ast.Return, (name, node.lineno))

    def test_builtins(self):
        for name, tree in trees():
            bound = {told for line, told in bound_names(tree)}
            bound |= {told.name for node in tree.body if isinstance(node, ast.ImportFrom) for told in node.names}
            for node in ast.walk(tree):
                if isinstance(node, ast.Name) and node.id not in bound:
                    self.assertIn(node.id, BUILTINS, (name, node.lineno))


if __name__ == "__main__":
    unittest.main()
