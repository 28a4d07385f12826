"""The rules of the language subset that a short look at the files can tell."""

import ast
import builtins
import io
import re
import tokenize
import unittest
from pathlib import Path

PACKAGE = Path(__file__).resolve().parent.parent / "bymarks"
FILES = sorted(PACKAGE.glob("*.py"))
LIBRARY = {
    "heapq": {"heappush", "heappop", "heapify", "heapreplace", "heappushpop"},
    "math": {"gcd", "lcm", "isqrt", "comb", "perm", "factorial"},
    "itertools": {"product", "combinations", "permutations", "chain", "accumulate", "pairwise", "islice", "zip_longest"},
    "collections": {"defaultdict"},
}
BUILTINS = set("""len range enumerate zip min max sum abs sorted reversed int str bool bytes list tuple dict set
    isinstance ord repr any all divmod pow getattr hasattr setattr iter next map super property staticmethod
    classmethod Exception ValueError TypeError KeyError IndexError LookupError ZeroDivisionError ArithmeticError
    OverflowError RuntimeError NotImplementedError AttributeError StopIteration NotImplemented""".split())
BARRED_WORDS = set("""type typing typing_extensions enum Enum IntEnum StrEnum Flag IntFlag Generic Protocol ABC ABCMeta
    namedtuple NamedTuple TypedDict TYPE_CHECKING abstractmethod""".split())
BARRED_NAMES = set("""register mro elements open input law version_info with_traceback add_note id vars dir type exit
    help os gc copyright credits license quit eval exec compile globals locals""".split())
# A session of examples, as another test runs them, leaves a builtin of this name behind.
KNOWN_BUILTINS = set(dir(builtins)) - {"_"}
BARRED_NODES = (ast.Global, ast.AsyncFunctionDef, ast.Await, ast.AsyncFor, ast.AsyncWith, ast.Div, ast.MatMult)


def bound_names(tree):
    """All names that a file gives to something of its own, methods apart."""
    methods = methods_of(tree)
    found = []
    for node in ast.walk(tree):
        if isinstance(node, ast.Name) and not isinstance(node.ctx, ast.Load):
            found.append(node.id)
        elif isinstance(node, ast.arg):
            found.append(node.arg)
        elif isinstance(node, (ast.FunctionDef, ast.ClassDef)) and node not in methods:
            found.append(node.name)
    return found


def methods_of(tree):
    return [item for node in ast.walk(tree) if isinstance(node, ast.ClassDef) for item in node.body]


def each_file():
    """The path, the text and the syntax tree of each file of the package."""
    texts = [path.read_text(encoding="utf-8") for path in FILES]
    return [(path, text, ast.parse(text)) for path, text in zip(FILES, texts)]


class TestLanguage(unittest.TestCase):

    def test_files(self):
        self.assertTrue((PACKAGE / "__init__.py").exists())
        inside = [path.name for path in PACKAGE.iterdir() if path.name != "__pycache__"]
        self.assertEqual(sorted(inside), [path.name for path in FILES])

    def test_sizes_and_characters(self):
        for path, text, tree in each_file():
            self.assertIsNone(re.search("[^ -~\n]", text), path.name)
            self.assertLessEqual(len(text.splitlines()), 399, path.name)
            self.assertLessEqual(max(len(line) for line in text.splitlines()), 120, path.name)
            for node in ast.walk(tree):
                if isinstance(node, ast.FunctionDef):
                    self.assertLessEqual(node.end_lineno - node.lineno + 1, 40, node.name)

    def test_imports(self):
        for _, _, tree in each_file():
            for node in ast.walk(tree):
                self.assertNotIsInstance(node, ast.Import)
                if not isinstance(node, ast.ImportFrom):
                    continue
                self.assertEqual((node.level, node.col_offset), (0, 0))
                names = [alias.name for alias in node.names]
                self.assertTrue(all(alias.asname is None for alias in node.names))
                if node.module in LIBRARY:
                    self.assertLessEqual(set(names), LIBRARY[node.module])
                else:
                    self.assert_defines(node.module, names)

    def assert_defines(self, module, names):
        folder, _, file = module.partition(".")
        self.assertEqual(folder, "bymarks")
        body = ast.parse((PACKAGE / f"{file}.py").read_text(encoding="utf-8")).body
        told = [node.name for node in body if isinstance(node, (ast.FunctionDef, ast.ClassDef))]
        told += [node.targets[0].id for node in body if isinstance(node, ast.Assign)]
        self.assertLessEqual(set(names), set(told))

    def test_names(self):
        for _, _, tree in each_file():
            imported = [
                alias.name for node in tree.body if isinstance(node, ast.ImportFrom) for alias in node.names
            ]
            for name in bound_names(tree):
                self.assertNotIn(name, imported)
                self.assertNotIn(name, BARRED_NAMES)
                self.assertFalse(name.startswith("__") or name in KNOWN_BUILTINS, name)
            for item in methods_of(tree):
                if isinstance(item, ast.FunctionDef):
                    self.assertNotIn(item.name, BARRED_NAMES)

    def test_builtins(self):
        for _, _, tree in each_file():
            for node in ast.walk(tree):
                if isinstance(node, ast.Name) and node.id in KNOWN_BUILTINS:
                    self.assertIn(node.id, BUILTINS)
                if isinstance(node, ast.Name) and node.id == "_":
                    self.assertIsInstance(node.ctx, ast.Store)

    def test_words(self):
        for _, text, tree in each_file():
            notes = [ast.get_docstring(node, clean=False) for node in ast.walk(tree)
                     if isinstance(node, (ast.Module, ast.FunctionDef, ast.ClassDef))]
            for token in tokenize.generate_tokens(io.StringIO(text).readline):
                plain = token.string.strip('"')
                if token.type == tokenize.COMMENT or plain in notes:
                    continue
                self.assertFalse(BARRED_WORDS & set(re.findall("[A-Za-z_]+", token.string)), token.string)
                self.assertFalse(token.type == tokenize.STRING and "%" in token.string, token.string)

    def test_expressions(self):
        for _, _, tree in each_file():
            for node in ast.walk(tree):
                self.assertNotIsInstance(node, BARRED_NODES)
                self.assertFalse(isinstance(node, ast.Constant) and isinstance(node.value, (float, complex)))
                if isinstance(node, ast.BinOp) and isinstance(node.op, ast.Pow):
                    self.assertIsInstance(node.right, ast.Constant)
                    self.assertTrue(0 <= node.right.value <= 64)

    def test_operators(self):
        # What the rules ask of a whole package in which classes have operators.
        for _, text, tree in each_file():
            self.assertIsNone(re.search(r"[(]type[)]|Meta|metaclass=", text))
            for node in ast.walk(tree):
                self.assertNotIsInstance(node, (ast.GeneratorExp, ast.Lambda))
                if isinstance(node, ast.Attribute):
                    self.assertNotIn(node.attr, ("sort", "keys"))
            for item in methods_of(tree):
                if isinstance(item, ast.FunctionDef) and item.name.startswith("__") and item.name not in ("__init__", "__exit__"):
                    self.assertLessEqual(len(item.args.args), 2)
                    self.assertEqual((item.args.defaults, item.args.vararg, item.args.kwarg), ([], None, None))
            for node in tree.body:
                if isinstance(node, ast.ClassDef):
                    names = [item.name for item in node.body if isinstance(item, ast.FunctionDef)]
                    self.assertEqual("__getitem__" in names, "__iter__" in names)
                    self.assertEqual(len(names), len(set(names)))

    def test_docstrings(self):
        for _, _, tree in each_file():
            for node in [tree] + [node for node in tree.body if isinstance(node, (ast.FunctionDef, ast.ClassDef))]:
                self.assertTrue(ast.get_docstring(node), getattr(node, "name", "a file"))


if __name__ == "__main__":
    unittest.main()
