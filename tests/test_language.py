"""Those rules of the language subset that can be seen in the package's files one by one."""

import ast
import builtins
import pathlib
import re
import unittest

FOLDER = pathlib.Path(__file__).resolve().parent.parent / "guessedzeros"
FILES = sorted(path for path in FOLDER.iterdir() if path.name != "__pycache__")
BARRED_WORDS = """type typing typing_extensions enum Enum IntEnum StrEnum Flag IntFlag Generic Protocol ABC ABCMeta
    namedtuple NamedTuple TypedDict TYPE_CHECKING abstractmethod""".split()
BARRED_NAMES = """register mro elements open input law version_info with_traceback add_note eval exec id dir vars
    format format_map super""".split()
BUILTINS = """len range enumerate zip min max sum abs sorted reversed int str bool bytes list tuple dict set frozenset
    isinstance ord repr any all divmod iter next property staticmethod classmethod NotImplemented""".split()
DUNDERS = """__init__ __eq__ __repr__ __str__ __len__ __enter__ __exit__ __call__ __iter__ __slots__""".split()
# Of builtin values; those that aren't used are left out.
METHODS = """add append clear extend get index insert items join keys pop replace split values zfill bit_length""".split()
STATEMENTS = (ast.Global, ast.AsyncFunctionDef, ast.AsyncFor, ast.AsyncWith, ast.Await, ast.Import)


def trees():
    for path in FILES:
        text = path.read_text()
        yield path.name, text, ast.parse(text)


def bound_names(tree):
    """Every name that is given a meaning by an assignment, a parameter, a function or a class."""
    for node in ast.walk(tree):
        if isinstance(node, (ast.FunctionDef, ast.ClassDef)):
            yield node.name
        elif isinstance(node, ast.arg):
            yield node.arg
        elif isinstance(node, ast.Name) and isinstance(node.ctx, ast.Store):
            yield node.id


class TestFiles(unittest.TestCase):
    def test_names_and_sizes(self):
        self.assertLessEqual(len(FILES), 100)
        self.assertIn("__init__.py", [path.name for path in FILES])
        for path in FILES:
            self.assertRegex(path.name, r"^[a-z0-9_]+\.py$")
            text = path.read_bytes().decode("ascii")
            self.assertTrue(set(text) <= {chr(at) for at in range(32, 127)} | {"\n"}, path.name)
            lines = text.split("\n")
            self.assertLessEqual(len(lines), 399, path.name)
            self.assertLessEqual(max(map(len, lines)), 120, path.name)

    def test_functions_are_short(self):
        for name, text, tree in trees():
            for node in ast.walk(tree):
                if isinstance(node, ast.FunctionDef):
                    self.assertLessEqual(node.end_lineno - node.lineno + 1, 40, (name, node.name))

    def test_words(self):
        for name, text, tree in trees():
            words = set(re.findall(r"\w+", text))
            self.assertEqual(words & set(BARRED_WORDS), set(), name)
            self.assertNotRegex(text, r"dataclass|overload|contextmanager")


class TestImports(unittest.TestCase):
    def test_from_the_defining_file(self):
        defined = {}
        for name, text, tree in trees():
            kinds = (ast.FunctionDef, ast.ClassDef)
            own = {node.name for node in tree.body if isinstance(node, kinds)}
            own |= {node.targets[0].id for node in tree.body if isinstance(node, ast.Assign)}
            defined["guessedzeros." + name[:-3]] = own
        for name, text, tree in trees():
            for node in ast.walk(tree):
                if isinstance(node, ast.ImportFrom):
                    self.assertEqual(node.level, 0)
                    for alias in node.names:
                        self.assertIn(alias.name, defined[node.module], name)

    def test_no_rings(self):
        above = {}
        for name, text, tree in trees():
            above["guessedzeros." + name[:-3]] = {
                node.module for node in ast.walk(tree) if isinstance(node, ast.ImportFrom)}
        while above:
            free = [name for name in above if not above[name] & set(above)]
            self.assertTrue(free, above)
            for name in free:
                del above[name]


class TestCode(unittest.TestCase):
    def test_module_level(self):
        for name, text, tree in trees():
            names = []
            for at, node in enumerate(tree.body):
                if at == 0 and isinstance(node, ast.Expr):
                    continue
                self.assertIsInstance(node, (ast.ImportFrom, ast.FunctionDef, ast.ClassDef, ast.Assign), name)
                if isinstance(node, ast.Assign):
                    names.append(node.targets[0].id)
                elif isinstance(node, ast.ImportFrom):
                    names += [alias.name for alias in node.names]
                else:
                    names.append(node.name)
            self.assertEqual(len(names), len(set(names)), name)

    def test_names(self):
        for name, text, tree in trees():
            for bound in bound_names(tree):
                if bound in DUNDERS:
                    continue
                self.assertFalse(bound.startswith("_"), (name, bound))
                self.assertNotIn(bound, dir(builtins), name)
                self.assertNotIn(bound, BARRED_NAMES, name)

    def test_no_local_name_hides_an_import_or_a_class(self):
        for name, text, tree in trees():
            fixed = {node.name for node in tree.body if isinstance(node, ast.ClassDef)}
            for node in tree.body:
                if isinstance(node, ast.ImportFrom):
                    fixed |= {alias.asname or alias.name for alias in node.names}
            for node in ast.walk(tree):
                if isinstance(node, ast.FunctionDef):
                    own = set(bound_names(node)) - {node.name}
                    self.assertEqual(own & fixed, set(), (name, node.name))

    def test_builtins(self):
        for name, text, tree in trees():
            for node in ast.walk(tree):
                if isinstance(node, ast.Name) and node.id in dir(builtins):
                    is_error = isinstance(getattr(builtins, node.id), type) and node.id.endswith(("Error", "Exception"))
                    self.assertTrue(is_error or node.id in BUILTINS, (name, node.id))

    def test_statements_and_numbers(self):
        for name, text, tree in trees():
            for node in ast.walk(tree):
                self.assertNotIsInstance(node, STATEMENTS, name)
                if isinstance(node, (ast.BinOp, ast.AugAssign)):
                    self.assertNotIsInstance(node.op, ast.Div, name)
                if isinstance(node, ast.BinOp) and isinstance(node.op, ast.Pow):
                    self.assertIsInstance(node.right, ast.Constant, name)
                if isinstance(node, ast.Constant):
                    self.assertNotIsInstance(node.value, (float, complex), name)
                    if isinstance(node.value, str):
                        self.assertNotIn("%", node.value, name)
                if isinstance(node, ast.Compare) and isinstance(node.ops[0], (ast.Is, ast.IsNot)):
                    self.assertIn(ast.unparse(node.comparators[0]), ("None", "True", "False"), name)

    def test_no_generator_expression_beside_an_own_equality(self):
        for name, text, tree in trees():
            for node in ast.walk(tree):
                if isinstance(node, ast.Call) and isinstance(node.func, ast.Name):
                    if node.func.id in ("any", "all", "min", "max", "sum", "sorted"):
                        kinds = [isinstance(given, ast.GeneratorExp) for given in node.args]
                        self.assertNotIn(True, kinds, name)

    def test_methods_that_are_called(self):
        own = {row.name for name, text, tree in trees() for node in tree.body if isinstance(node, ast.ClassDef)
               for row in node.body if isinstance(row, ast.FunctionDef)}
        for name, text, tree in trees():
            for node in ast.walk(tree):
                if isinstance(node, ast.Call) and isinstance(node.func, ast.Attribute):
                    self.assertIn(node.func.attr, own | set(METHODS), name)

    def test_no_name_is_a_method_here_and_an_attribute_there(self):
        methods, attributes = set(), set()
        for name, text, tree in trees():
            for node in ast.walk(tree):
                if isinstance(node, ast.ClassDef):
                    methods |= {row.name for row in node.body if isinstance(row, ast.FunctionDef)}
                elif isinstance(node, ast.Attribute) and isinstance(node.ctx, ast.Store):
                    attributes.add(node.attr)
        self.assertEqual(methods & attributes, set())


if __name__ == "__main__":
    unittest.main()
