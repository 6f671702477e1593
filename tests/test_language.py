"""The package keeps to the subset of Python that it is written in, as far as a short test can see it."""

import ast
import builtins
import io
import re
import tokenize
import unittest
from pathlib import Path

PACKAGE = Path(__file__).resolve().parent.parent / "hopline"

BUILTINS = """len range enumerate zip min max sum abs sorted reversed int str bool bytes list tuple dict set frozenset
isinstance ord repr any all divmod Exception ValueError TypeError KeyError IndexError LookupError ZeroDivisionError
ArithmeticError OverflowError RuntimeError NotImplementedError AttributeError StopIteration iter next super property
staticmethod classmethod""".split()

DUNDERS = """__init__ __eq__ __repr__ __str__ __len__""".split()

WORDS = re.compile(r"\b(type|typing|typing_extensions|enum|Enum|IntEnum|StrEnum|Flag|IntFlag|Generic|Protocol|ABC"
                   r"|ABCMeta|namedtuple|NamedTuple|TypedDict|TYPE_CHECKING|abstractmethod)\b"
                   r"|dataclass|overload|contextmanager")

BARRED_NODES = (ast.Global, ast.AsyncFunctionDef, ast.AsyncFor, ast.AsyncWith, ast.Await, ast.Div, ast.MatMult)

TAKES_LISTS = ["any", "all", "min", "max", "sum", "sorted"]

# What methods of builtin values may be called; those of the package stand beside them.
BUILTIN_METHODS = """append clear copy count endswith extend find get index insert isalnum isalpha isdigit islower
isspace isupper items join keys ljust lower lstrip partition pop remove replace reverse rfind rjust rpartition rsplit rstrip
setdefault split splitlines startswith strip update upper values zfill bit_length isascii removeprefix removesuffix
__init__""".split()


def files():
    return sorted(PACKAGE.rglob("*.py"))


def trees():
    return [(path.name, ast.parse(path.read_text(encoding="utf-8"))) for path in files()]


def nodes(kind):
    return [(name, node) for name, tree in trees() for node in ast.walk(tree) if isinstance(node, kind)]


def is_text(node):
    """Whether it is a text as it may be told by str and repr: a literal, an f-string, or the join of a literal."""
    if isinstance(node, ast.Call):
        return (isinstance(node.func, ast.Attribute) and node.func.attr == "join"
                and isinstance(node.func.value, ast.Constant))
    return isinstance(node, (ast.Constant, ast.JoinedStr))


class TestLanguage(unittest.TestCase):

    def test_folder_has_only_plain_files(self):
        for path in PACKAGE.iterdir():
            if path.name != "__pycache__":
                self.assertRegex(path.name, r"^(__init__|__main__|[a-z][a-z0-9_]*)\.py$")

    def test_sizes_and_signs(self):
        for path in files():
            text = path.read_text(encoding="utf-8")
            self.assertRegex(text, r"\A[ -~\n]*\Z", path.name)
            self.assertLessEqual(len(text.splitlines()), 400, path.name)
            self.assertLessEqual(max(len(line) for line in text.splitlines()), 120, path.name)
            self.assertIsNone(WORDS.search(text), path.name)

    def test_functions_are_short(self):
        for name, node in nodes(ast.FunctionDef):
            self.assertLessEqual(node.end_lineno - node.lineno + 1, 40, f"{name}: {node.name}")

    def test_imports(self):
        for name, node in nodes((ast.Import, ast.ImportFrom)):
            self.assertIsInstance(node, ast.ImportFrom, name)
            self.assertEqual(node.level, 0, name)
            self.assertRegex(node.module, r"^hopline\.[a-z_]+$", name)
            self.assertTrue(all(alias.name != "*" for alias in node.names), name)

    def test_module_level(self):
        for name, tree in trees():
            for node in tree.body:
                docstring = isinstance(node, ast.Expr) and isinstance(node.value, ast.Constant)
                self.assertTrue(docstring or isinstance(node, (ast.ImportFrom, ast.FunctionDef, ast.ClassDef, ast.Assign)),
                                f"{name}:{node.lineno}")

    def test_barred_nodes(self):
        for name, node in nodes(BARRED_NODES):
            self.fail(f"{name}: {ast.dump(node)}")

    def test_names(self):
        for name, node in nodes((ast.Name, ast.arg, ast.Attribute, ast.FunctionDef, ast.ClassDef)):
            word = {ast.Name: "id", ast.arg: "arg", ast.Attribute: "attr"}.get(type(node), "name")
            found = getattr(node, word)
            if found not in DUNDERS:
                self.assertFalse(found.startswith("_"), f"{name}:{node.lineno}: {found}")
            if isinstance(node, ast.Name) and hasattr(builtins, found):
                self.assertIn(found, BUILTINS, f"{name}:{node.lineno}")
                self.assertIsInstance(node.ctx, ast.Load, f"{name}:{node.lineno}")

    def test_double_underscore_methods(self):
        for name, node in nodes(ast.FunctionDef):
            if node.name in ("__repr__", "__str__"):
                for told in [part for part in ast.walk(node) if isinstance(part, ast.Return)]:
                    self.assertTrue(is_text(told.value), f"{name}:{told.lineno}")
            if node.name == "__len__":
                for told in [part for part in ast.walk(node) if isinstance(part, ast.Return)]:
                    self.assertRegex(ast.unparse(told.value), r"^(len\(.*\)|\d+)$", f"{name}:{told.lineno}")
            if node.name in ("__repr__", "__str__", "__len__"):
                self.assertIsInstance(node.body[-1], ast.Return, f"{name}:{node.lineno}")
            if node.name in ("__eq__", "__repr__", "__str__", "__len__"):
                stored = [part for part in ast.walk(node) if isinstance(part, (ast.Assign, ast.AugAssign, ast.Delete))]
                self.assertEqual(stored, [], f"{name}:{node.lineno}")

    def test_methods_that_are_called(self):
        own = {node.name for name, node in nodes(ast.FunctionDef)}
        for name, node in nodes(ast.Call):
            if isinstance(node.func, ast.Attribute):
                self.assertIn(node.func.attr, own | set(BUILTIN_METHODS), f"{name}:{node.lineno}")

    def test_constants(self):
        for name, node in nodes(ast.Constant):
            self.assertIsInstance(node.value, (int, str, bytes, type(None)), f"{name}:{node.lineno}")
            if isinstance(node.value, str):
                self.assertNotIn("%", node.value, f"{name}:{node.lineno}")

    def test_powers_have_literal_exponents(self):
        for name, node in nodes(ast.BinOp):
            if isinstance(node.op, ast.Pow):
                self.assertIsInstance(node.right, ast.Constant, f"{name}:{node.lineno}")
                self.assertIn(node.right.value, range(65), f"{name}:{node.lineno}")

    def test_is_only_with_none_true_false(self):
        for name, node in nodes(ast.Compare):
            for sign, side in zip(node.ops, node.comparators):
                if isinstance(sign, (ast.Is, ast.IsNot)):
                    self.assertTrue(isinstance(side, ast.Constant) and side.value in (None, True, False),
                                    f"{name}:{node.lineno}")

    def test_no_generator_expressions_where_parts_compare(self):
        for name, node in nodes(ast.Call):
            if isinstance(node.func, ast.Name) and node.func.id in TAKES_LISTS:
                for given in node.args:
                    self.assertNotIsInstance(given, ast.GeneratorExp, f"{name}:{node.lineno}")

    def test_no_name_is_both_method_and_attribute(self):
        methods = {part.name for name, node in nodes(ast.ClassDef) for part in node.body
                   if isinstance(part, ast.FunctionDef)}
        stored = {node.attr for name, node in nodes(ast.Attribute) if isinstance(node.ctx, ast.Store)}
        self.assertEqual(methods & stored, set())

    def test_no_local_name_hides_an_import_or_a_class(self):
        for name, tree in trees():
            taken = {alias.asname or alias.name for node in tree.body if isinstance(node, ast.ImportFrom)
                     for alias in node.names} | {node.name for node in tree.body if isinstance(node, ast.ClassDef)}
            bound = {node.id for node in ast.walk(tree) if isinstance(node, ast.Name)
                     and isinstance(node.ctx, ast.Store)} | {node.arg for node in ast.walk(tree)
                                                             if isinstance(node, ast.arg)}
            self.assertEqual(taken & bound, set(), name)
            self.assertEqual({word for word in bound if hasattr(builtins, word)}, set(), name)

    def test_escapes(self):
        for path in files():
            for token in tokenize.generate_tokens(io.StringIO(path.read_text(encoding="utf-8")).readline):
                if token.type == tokenize.STRING:
                    self.assertEqual(re.findall(r"\\[^nt\\'\"]", token.string), [], f"{path.name}:{token.start[0]}")

    def test_no_circle_of_imports(self):
        needs = {path.stem: set() for path in files()}
        for name, node in nodes(ast.ImportFrom):
            needs[name.removesuffix(".py")].add(node.module.split(".")[1])
        while needs:
            free = [name for name in needs if not needs[name] & set(needs)]
            self.assertTrue(free, f"import each other: {sorted(needs)}")
            for name in free:
                del needs[name]


if __name__ == "__main__":
    unittest.main()
