"""The rules of the language that can be seen in the syntax of the package's files."""

import ast
import builtins
import pathlib
import re
import unittest

FOLDER = pathlib.Path(__file__).resolve().parent.parent / "cutweave"
LIBRARY = {
    "heapq": {"heappush", "heappop", "heapify", "heapreplace", "heappushpop"},
    "math": {"gcd", "lcm", "isqrt", "comb", "perm", "factorial"},
    "itertools": {"product", "combinations", "permutations", "chain", "accumulate", "pairwise", "islice", "zip_longest"},
    "collections": {"defaultdict"},
    "__future__": {"annotations"},
}
BUILTINS = set("""len range enumerate zip min max sum abs sorted reversed int str bool list tuple dict set isinstance ord repr
    any all divmod pow map iter next super Exception ValueError TypeError KeyError IndexError LookupError ZeroDivisionError
    ArithmeticError OverflowError RuntimeError NotImplementedError AttributeError StopIteration NotImplemented""".split())
METHODS = set("""append clear copy count endswith extend find get index insert isalnum isalpha isdigit islower isspace isupper
    items join keys ljust lower lstrip partition pop remove replace reverse rfind rjust rpartition rsplit rstrip setdefault
    split splitlines startswith strip update upper values zfill bit_length add discard""".split())
NODES = (ast.Global, ast.AsyncFunctionDef, ast.AsyncFor, ast.AsyncWith, ast.Await, ast.Import, ast.Div, ast.MatMult)
BARRED = re.compile(r"\b(type|typing|enum|Enum|Generic|Protocol|ABC|namedtuple|NamedTuple|abstractmethod)\b"
                    r"|dataclass|overload|contextmanager|[%]")


def trees():
    return {path: ast.parse(path.read_text("utf-8")) for path in sorted(FOLDER.glob("*.py"))}


def bound_names(tree):
    """Every name that the file binds: by an assignment, a parameter, a definition or an import."""
    for node in ast.walk(tree):
        if isinstance(node, ast.Name) and not isinstance(node.ctx, ast.Load):
            yield node.id
        elif isinstance(node, ast.arg):
            yield node.arg
        elif isinstance(node, (ast.FunctionDef, ast.ClassDef)):
            yield node.name
        elif isinstance(node, ast.alias):
            yield node.asname or node.name


def top_names(tree, kinds):
    return {node.name for node in tree.body if isinstance(node, kinds)}


def docstrings(tree):
    """The nodes that are docstrings, to which the rules about strings do not all apply."""
    return {id(node.body[0].value) for node in ast.walk(tree)
            if isinstance(node, (ast.Module, ast.ClassDef, ast.FunctionDef)) and ast.get_docstring(node)}


class Language(unittest.TestCase):

    def test_only_plain_files(self):
        for path in FOLDER.rglob("*"):
            if "__pycache__" not in path.parts:
                self.assertRegex(path.name, r"\A[a-z_][a-z0-9_]*\.py\Z")
        self.assertTrue((FOLDER / "__init__.py").exists())

    def test_sizes_and_characters(self):
        for path, tree in trees().items():
            text = path.read_text("utf-8")
            self.assertRegex(text, r"\A[ -~\n]*\Z", path)
            lines = text.split("\n")
            self.assertLessEqual(len(lines), 399, path)
            self.assertLessEqual(max(map(len, lines)), 120, path)
            for node in ast.walk(tree):
                if isinstance(node, ast.FunctionDef):
                    self.assertLessEqual(node.end_lineno - node.lineno + 1, 40, node.name)

    def test_imports_name_the_file_that_defines(self):
        parsed = {f"cutweave.{path.stem}": tree for path, tree in trees().items()}
        for tree in parsed.values():
            for node in ast.walk(tree):
                if isinstance(node, ast.ImportFrom):
                    self.assertEqual(node.level, 0)
                    told = {alias.name for alias in node.names}
                    allowed = LIBRARY.get(node.module)
                    if allowed is None:
                        allowed = set(bound_names(parsed[node.module])) - self.imported(parsed[node.module])
                    self.assertLessEqual(told, allowed)

    def imported(self, tree):
        return {alias.name for node in ast.walk(tree) if isinstance(node, ast.ImportFrom) for alias in node.names}

    def test_no_two_files_import_from_each_other(self):
        needs = {f"cutweave.{path.stem}": {node.module for node in ast.walk(tree) if isinstance(node, ast.ImportFrom)}
                 for path, tree in trees().items()}
        while needs:
            free = [name for name in needs if not needs[name] & set(needs)]
            self.assertTrue(free, f"these files import from each other: {sorted(needs)}")
            for name in free:
                del needs[name]

    def test_statements_and_expressions(self):
        for path, tree in trees().items():
            for node in ast.walk(tree):
                where = f"{path.name}:{getattr(node, 'lineno', 0)}"
                self.assertNotIsInstance(node, NODES, where)
                if isinstance(node, ast.Constant):
                    self.assertNotIsInstance(node.value, (float, complex), where)
                if isinstance(node, (ast.FunctionDef, ast.ClassDef)):
                    self.assertEqual(node.decorator_list, [], where)
                # There is a class with __eq__, so these take a list.
                if isinstance(node, ast.Call) and isinstance(node.func, ast.Name):
                    if node.func.id in ("any", "all", "min", "max", "sum", "sorted"):
                        self.assertNotIsInstance(node.args[0], ast.GeneratorExp, where)

    def test_strings(self):
        for path, tree in trees().items():
            texts = docstrings(tree)
            for node in ast.walk(tree):
                if isinstance(node, ast.Constant) and isinstance(node.value, str):
                    self.assertNotIn("%", node.value, path)
                    if id(node) not in texts:
                        self.assertNotRegex(node.value, BARRED, path)

    def test_builtins_and_methods(self):
        own_methods = {node.name for tree in trees().values() for kind in ast.walk(tree) if isinstance(kind, ast.ClassDef)
                       for node in kind.body if isinstance(node, ast.FunctionDef)}
        for path, tree in trees().items():
            bound = set(bound_names(tree))
            self.assertEqual(bound & set(dir(builtins)), set(), path)
            for node in ast.walk(tree):
                if isinstance(node, ast.Name) and isinstance(node.ctx, ast.Load):
                    self.assertIn(node.id, bound | BUILTINS, f"{path.name}:{node.lineno}")
                if isinstance(node, ast.Call) and isinstance(node.func, ast.Attribute):
                    self.assertIn(node.func.attr, METHODS | own_methods, f"{path.name}:{node.lineno}")

    def test_one_meaning_for_each_name(self):
        for path, tree in trees().items():
            barred = self.imported(tree) | top_names(tree, ast.ClassDef)
            inner = [node for top in ast.walk(tree) if isinstance(top, ast.FunctionDef) for node in ast.walk(top)]
            told = {node.id for node in inner if isinstance(node, ast.Name) and isinstance(node.ctx, ast.Store)}
            told |= {node.arg for node in inner if isinstance(node, ast.arg)}
            self.assertEqual(told & barred, set(), path)
            for name in bound_names(tree):
                if not name.startswith("__"):
                    self.assertRegex(name, r"\A_?[A-Za-z][A-Za-z0-9_]*\Z|\A_\Z", path)

    def test_sets_are_not_iterated(self):
        for path, tree in trees().items():
            for node in ast.walk(tree):
                if isinstance(node, (ast.For, ast.comprehension)):
                    self.assertNotIsInstance(node.iter, (ast.Set, ast.SetComp), path)
                    if isinstance(node.iter, ast.Call) and isinstance(node.iter.func, ast.Name):
                        self.assertNotEqual(node.iter.func.id, "set", path)


if __name__ == "__main__":
    unittest.main()
