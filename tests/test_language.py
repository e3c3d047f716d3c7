"""Looks through the files of the package for what LANGUAGE.md bars, as far as a look can tell."""

import ast
import builtins
import pathlib
import re
import unittest

FOLDER = pathlib.Path(__file__).resolve().parent.parent / "sparetrees"
FILES = sorted(FOLDER.rglob("*.py"))
BUILTINS = set(
    "len range enumerate zip min max sum abs sorted reversed int str bool list tuple dict set isinstance "
    "ord repr any all divmod pow ValueError KeyError IndexError LookupError iter next".split())
METHODS = set(
    "append clear copy count endswith extend find get index insert isalnum isalpha isdigit islower isspace "
    "isupper items join keys ljust lower lstrip partition pop remove replace reverse rfind rjust rpartition "
    "rsplit rstrip setdefault split splitlines startswith strip update upper values zfill bit_length".split())
LIBRARY = {
    "heapq": {"heappush", "heappop", "heapify", "heapreplace", "heappushpop"},
    "math": {"gcd", "lcm", "isqrt", "comb", "perm", "factorial"},
    "itertools": {"product", "combinations", "permutations", "chain", "accumulate", "pairwise", "islice",
                  "zip_longest"},
    "collections": {"defaultdict"},
}
BARRED_NODES = (
    ast.AsyncFunctionDef, ast.Global, ast.Await, ast.AsyncFor, ast.AsyncWith, ast.Div, ast.Import)
BARRED_NAMES = re.compile(
    r"\b(typing|typing_extensions|enum|Enum|IntEnum|StrEnum|Flag|IntFlag|Generic|Protocol|ABC|ABCMeta|namedtuple"
    r"|NamedTuple|TypedDict|TYPE_CHECKING|abstractmethod|type|register|mro|elements|open|input|law|version_info"
    r"|eval|exec|compile|globals|locals|vars|dir|id|help|exit|quit|super|float|chr|bytes)\b"
    r"|dataclass|overload|contextmanager|_wall")
SPECIAL_METHODS = {"__init__", "__eq__"}


def trees():
    for path in FILES:
        yield path, ast.parse(path.read_text(encoding="utf-8"))


def own_names(tree):
    """What a file binds at module level, imports among it."""
    names = set()
    for node in tree.body:
        if isinstance(node, (ast.FunctionDef, ast.ClassDef)):
            names.add(node.name)
        elif isinstance(node, ast.ImportFrom):
            names |= {alias.name for alias in node.names}
        elif isinstance(node, ast.Assign):
            names |= {target.id for target in node.targets}
    return names


def imported_names(tree):
    return {alias.name for node in tree.body if isinstance(node, ast.ImportFrom) for alias in node.names}


class LanguageTest(unittest.TestCase):

    def test_files(self):
        self.assertIn(FOLDER / "__init__.py", FILES)
        held = [path for path in FOLDER.rglob("*") if "__pycache__" not in path.parts]
        self.assertEqual(sorted(held), FILES)
        for path in FILES:
            self.assertRegex(path.name, r"^[a-z][a-z0-9_]*\.py$|^__(init|main)__\.py$")

    def test_sizes_and_characters(self):
        for path, tree in trees():
            text = path.read_text(encoding="utf-8")
            self.assertRegex(text, r"\A[ -~\n]*\Z", path)
            self.assertLess(len(text.splitlines()), 400, path)
            self.assertLessEqual(max(map(len, text.splitlines())), 120, path)
            for node in ast.walk(tree):
                if isinstance(node, ast.FunctionDef):
                    self.assertLessEqual(node.end_lineno - node.lineno, 39, node.name)

    def test_imports(self):
        for path, tree in trees():
            begun = False
            for node in tree.body:
                if isinstance(node, ast.ImportFrom):
                    self.assertFalse(begun, path)
                    self.assertEqual(node.level, 0)
                    allowed = LIBRARY.get(node.module)
                    for alias in node.names:
                        self.assertIsNone(alias.asname)
                        self.assertTrue(node.module.startswith("sparetrees.") if allowed is None
                                        else alias.name in allowed, alias.name)
                elif not (isinstance(node, ast.Expr) and isinstance(node.value, ast.Constant)):
                    begun = True

    def test_imports_name_the_file_that_defines(self):
        defined = {f"sparetrees.{path.stem}": own_names(tree) - imported_names(tree) for path, tree in trees()}
        for path, tree in trees():
            for node in ast.walk(tree):
                if isinstance(node, ast.ImportFrom) and node.module.startswith("sparetrees"):
                    for alias in node.names:
                        self.assertIn(alias.name, defined[node.module], path)

    def test_no_files_import_each_other(self):
        ahead = {path.stem: {node.module.split(".")[-1] for node in tree.body
                             if isinstance(node, ast.ImportFrom) and node.module.startswith("sparetrees")}
                 for path, tree in trees()}
        while ahead:
            free = [name for name, wants in ahead.items() if not wants & set(ahead)]
            self.assertTrue(free, f"a ring of imports among {sorted(ahead)}")
            for name in free:
                del ahead[name]

    def test_statements_and_expressions(self):
        for path, tree in trees():
            for node in ast.walk(tree):
                where = f"{path.name}:{getattr(node, 'lineno', 0)}"
                self.assertNotIsInstance(node, BARRED_NODES, where)
                if isinstance(node, (ast.FunctionDef, ast.ClassDef)):
                    self.assertEqual(node.decorator_list, [], where)
                if isinstance(node, ast.Constant):
                    self.assertNotIsInstance(node.value, (float, complex, bytes), where)
                if isinstance(node, ast.Compare):
                    for sign, right in zip(node.ops, node.comparators):
                        if isinstance(sign, (ast.Is, ast.IsNot)):
                            self.assertIsInstance(right, ast.Constant, where)
                if isinstance(node, ast.ExceptHandler):
                    self.assertIsNotNone(node.type, where)
                if isinstance(node, ast.Raise):
                    self.assertTrue(node.exc is None or isinstance(node.exc, ast.Call), where)
                if isinstance(node, ast.GeneratorExp):
                    self.fail(f"{where}: take a list")

    def test_calls(self):
        for path, tree in trees():
            # A function that was passed is called by its parameter's name.
            own = own_names(tree) | {node.arg for node in ast.walk(tree) if isinstance(node, ast.arg)}
            for node in ast.walk(tree):
                where = f"{path.name}:{getattr(node, 'lineno', 0)}"
                if isinstance(node, ast.Call) and isinstance(node.func, ast.Name):
                    self.assertTrue(node.func.id in BUILTINS | own, f"{where} {node.func.id}")
                if isinstance(node, ast.Call) and isinstance(node.func, ast.Attribute):
                    self.assertIn(node.func.attr, METHODS | own_methods(), where)
                if isinstance(node, ast.Name) and isinstance(node.ctx, ast.Store):
                    self.assertNotIn(node.id, dir(builtins), where)
                if isinstance(node, ast.FunctionDef) and node.name.startswith("__"):
                    self.assertIn(node.name, SPECIAL_METHODS, where)

    def test_names_and_words(self):
        for path, tree in trees():
            docs = {id(node.body[0].value) for node in ast.walk(tree)
                    if isinstance(node, (ast.Module, ast.ClassDef, ast.FunctionDef)) and ast.get_docstring(node)}
            for node in ast.walk(tree):
                words = []
                if isinstance(node, ast.Constant) and isinstance(node.value, str) and id(node) not in docs:
                    words.append(node.value)
                for field in ("id", "attr", "arg", "name"):
                    words.append(str(getattr(node, field, "")))
                for word in words:
                    self.assertIsNone(BARRED_NAMES.search(word), f"{path.name} {word}")
                    self.assertNotIn("%", word)


def own_methods():
    found = set()
    for _, tree in trees():
        for node in ast.walk(tree):
            if isinstance(node, ast.ClassDef):
                found |= {part.name for part in node.body if isinstance(part, ast.FunctionDef)}
    return found


if __name__ == "__main__":
    unittest.main()
