"""Those rules of the language for the package that are easy to check.

They are of L1, L2, L4, L5, L7, L8, L10, L14 to L17, L25 and L27.
"""

import ast
import builtins
import pathlib
import re
import unittest

import fairbatches

FOLDER = pathlib.Path(fairbatches.__file__).parent
FILES = sorted(path for path in FOLDER.iterdir() if path.name != "__pycache__")
LIBRARY = {"math", "heapq", "itertools", "collections"}
DECORATORS = {"property", "classmethod", "staticmethod"}
BUILTINS = set(
    "len range enumerate zip min max sum abs sorted reversed int str bool bytes list tuple dict set frozenset "
    "isinstance ord repr any all divmod pow getattr hasattr setattr iter next map super property staticmethod "
    "classmethod Exception ValueError TypeError KeyError IndexError LookupError ZeroDivisionError ArithmeticError "
    "OverflowError RuntimeError NotImplementedError AttributeError StopIteration NotImplemented".split()
)
BARRED_WORDS = set(
    "typing typing_extensions enum Enum IntEnum StrEnum Flag IntFlag Generic Protocol ABC ABCMeta namedtuple "
    "NamedTuple TypedDict TYPE_CHECKING abstractmethod dataclass overload contextmanager".split()
)
METHODS = set(
    "append clear copy count endswith extend find get index insert isalnum isalpha isdigit islower isspace isupper "
    "items join keys ljust lower lstrip partition pop remove replace reverse rfind rjust rpartition rsplit rstrip "
    "setdefault split splitlines startswith strip update upper values zfill bit_length add discard "
    "title capitalize swapcase casefold center expandtabs removeprefix removesuffix rindex isascii isdecimal "
    "isnumeric istitle isidentifier isprintable".split()
)
BARRED_NODES = (
    ast.Global, ast.AsyncFunctionDef, ast.AsyncFor, ast.AsyncWith, ast.Await, ast.Div, ast.MatMult, ast.GeneratorExp,
)


class LanguageTest(unittest.TestCase):
    def nodes(self):
        """All nodes of all files."""
        return [node for path in FILES for node in ast.walk(ast.parse(path.read_text()))]

    def test_files(self):
        for path in FILES:
            with self.subTest(path=path.name):
                self.assertTrue(path.is_file())
                self.assertTrue(path.name == "__init__.py" or re.fullmatch(r"[a-z][a-z0-9_]*\.py", path.name))
                text = path.read_text(encoding="utf-8")
                self.assertIsNone(re.search(r"[^ -~\n]", text))
                lines = text.splitlines()
                self.assertLessEqual(len(lines), 399)
                self.assertLessEqual(max([len(line) for line in lines]), 120)

    def test_imports(self):
        for node in self.nodes():
            self.assertNotIsInstance(node, ast.Import)
            if isinstance(node, ast.ImportFrom):
                self.assertEqual(node.level, 0)
                self.assertTrue(node.module in LIBRARY or node.module.startswith("fairbatches."), node.module)
                self.assertNotIn("*", [name.name for name in node.names])

    def test_imports_are_used_and_their_names_mean_nothing_else(self):
        for path in FILES:
            tree = ast.parse(path.read_text())
            taken = {name.name for node in tree.body if isinstance(node, ast.ImportFrom) for name in node.names}
            nodes = list(ast.walk(tree))
            self.assertLessEqual(taken, {node.id for node in nodes if isinstance(node, ast.Name)}, path.name)
            taken |= {node.name for node in tree.body if isinstance(node, ast.ClassDef)}
            local = {node.id for node in nodes if isinstance(node, ast.Name) and not isinstance(node.ctx, ast.Load)}
            local |= {node.arg for node in nodes if isinstance(node, ast.arg)}
            self.assertEqual(local & taken, set(), path.name)

    def test_no_two_files_import_from_each_other(self):
        imports = {
            path.stem: {
                node.module.split(".")[1] for node in ast.parse(path.read_text()).body
                if isinstance(node, ast.ImportFrom) and node.module.startswith("fairbatches.")
            }
            for path in FILES
        }
        while imports:
            free = [name for name, others in imports.items() if not others & set(imports)]
            self.assertTrue(free, imports)
            imports = {name: others for name, others in imports.items() if name not in free}

    def test_functions_and_classes(self):
        for node in self.nodes():
            if isinstance(node, ast.FunctionDef):
                self.assertLessEqual(node.end_lineno - node.lineno + 1, 40, node.name)
                self.assertLessEqual({decorator.id for decorator in node.decorator_list}, DECORATORS)
            if isinstance(node, ast.ClassDef):
                self.assertEqual(node.decorator_list, [])

    def test_builtins(self):
        for node in self.nodes():
            if isinstance(node, ast.Name) and node.id in dir(builtins):
                self.assertIsInstance(node.ctx, ast.Load, node.id)
                self.assertIn(node.id, BUILTINS)
            if isinstance(node, ast.arg):
                self.assertNotIn(node.arg, dir(builtins))

    def test_values_and_expressions(self):
        for node in self.nodes():
            self.assertNotIsInstance(node, BARRED_NODES)
            if isinstance(node, ast.Constant):
                self.assertNotIsInstance(node.value, (float, complex))
            if isinstance(node, ast.Constant) and isinstance(node.value, str):
                self.assertNotIn("%", node.value)

    def test_words(self):
        for path in FILES:
            words = set(re.findall(r"\w+", path.read_text()))
            self.assertEqual(words & BARRED_WORDS, set(), path.name)

    def test_methods(self):
        own = {node.name for node in self.nodes() if isinstance(node, ast.FunctionDef)}
        for node in self.nodes():
            if isinstance(node, ast.Call) and isinstance(node.func, ast.Attribute):
                self.assertIn(node.func.attr, METHODS | own)

    def test_what_is_sorted(self):
        # Ratios are compared but not sorted, so it must be plain that no others are there.
        for node in self.nodes():
            if isinstance(node, ast.Call) and isinstance(node.func, ast.Name) and node.func.id in ("sorted", "min", "max"):
                keys = [ast.unparse(keyword.value) for keyword in node.keywords if keyword.arg == "key"]
                self.assertIn(keys, [["str"], ["int"], ["len"]], ast.unparse(node))
            if isinstance(node, ast.Call):
                self.assertFalse([part for part in node.args if isinstance(part, ast.Starred)], ast.unparse(node))
