"""The rules for the files of the package that a short look at its code can check."""

import ast
import builtins
import re
import unittest
from pathlib import Path

ROOT = Path(__file__).resolve().parent.parent
PACKAGE = "latelaw"
FILES = sorted(path for path in (ROOT / PACKAGE).rglob("*") if path.is_file() and "__pycache__" not in path.parts)
MODULES = {".".join(path.relative_to(ROOT).with_suffix("").parts): path for path in FILES}
TREES = {name: ast.parse(path.read_text(encoding="utf-8")) for name, path in MODULES.items()}

LIBRARY = {
    "heapq": "heappush heappop heapify heapreplace heappushpop",
    "math": "gcd lcm isqrt comb perm factorial",
    "itertools": "product combinations permutations chain accumulate pairwise islice zip_longest",
    "collections": "defaultdict deque",
    "__future__": "annotations",
}
BUILTINS = set(
    "len range enumerate zip min max sum abs sorted reversed int str bool bytes list tuple dict set frozenset "
    "isinstance ord repr any all divmod pow getattr hasattr setattr iter next map type object float property "
    "staticmethod classmethod super NotImplemented Exception ValueError TypeError KeyError IndexError LookupError "
    "ZeroDivisionError ArithmeticError OverflowError RuntimeError NotImplementedError AttributeError StopIteration "
    "print __name__".split()
)
METHODS = set(
    "append clear copy count endswith extend find get index insert isalnum isalpha isdigit islower isspace isupper "
    "items join keys ljust lower lstrip partition pop remove replace reverse rfind rjust rpartition rsplit rstrip "
    "setdefault split splitlines startswith strip update upper values zfill bit_length title capitalize swapcase "
    "casefold center expandtabs removeprefix removesuffix rindex isascii isdecimal isnumeric istitle isidentifier "
    "isprintable add discard sort translate maketrans format encode decode from_iterable "
    "appendleft popleft extendleft rotate".split()
)
BARRED = {"register", "mro", "elements", "open", "input", "law", "version_info", "with_traceback", "add_note"}
BARRED_CODE = (ast.AsyncFunctionDef, ast.AsyncFor, ast.AsyncWith, ast.Await, ast.Div)


def nodes(kind):
    """All nodes of a kind, with the name of their module."""
    return [(name, node) for name, tree in TREES.items() for node in ast.walk(tree) if isinstance(node, kind)]


def bound_names(tree):
    """The names that a file's statements bind at module level, once for each time."""
    found = []
    for node in tree.body:
        if isinstance(node, (ast.FunctionDef, ast.ClassDef)):
            found.append(node.name)
        elif isinstance(node, ast.ImportFrom):
            found.extend(alias.asname or alias.name for alias in node.names)
        elif isinstance(node, ast.Assign):
            found.extend(target.id for target in node.targets if isinstance(target, ast.Name))
    return found


class Files(unittest.TestCase):
    def test_names_of_files(self):
        self.assertIn(PACKAGE + ".__init__", MODULES)
        self.assertLessEqual(len(FILES), 100)
        for path in FILES:
            self.assertRegex(path.name, r"^([a-z][a-z0-9_]*|__init__|__main__)\.py$")

    def test_sizes_and_characters(self):
        for path in FILES:
            lines = path.read_text(encoding="utf-8").split("\n")
            self.assertLessEqual(len(lines) - 1, 399, path)
            for at, line in enumerate(lines, start=1):
                self.assertLessEqual(len(line), 120, (path, at))
                self.assertRegex(line, r"^[ -~]*$", (path, at))

    def test_sizes_of_functions(self):
        for name, node in nodes(ast.FunctionDef):
            self.assertLessEqual(node.end_lineno - node.lineno + 1, 40, (name, node.name))


class Imports(unittest.TestCase):
    def test_only_from_the_package_and_the_library(self):
        for name, node in nodes((ast.Import, ast.ImportFrom)):
            if isinstance(node, ast.Import):
                self.assertEqual((name, node.names[0].name), (PACKAGE + ".__main__", "sys"))
                continue
            self.assertEqual(node.level, 0, name)
            for alias in node.names:
                if node.module in LIBRARY:
                    self.assertIn(alias.name, LIBRARY[node.module].split(), name)
                    self.assertIsNone(alias.asname, name)
                else:
                    self.assertIn(node.module, TREES, name)
                    here = [found.name for found in TREES[node.module].body
                            if isinstance(found, (ast.FunctionDef, ast.ClassDef))]
                    here += [target.id for found in TREES[node.module].body if isinstance(found, ast.Assign)
                             for target in found.targets]
                    self.assertIn(alias.name, here, name)

    def test_no_circles(self):
        needs = {name: [] for name in TREES}
        for name, node in nodes(ast.ImportFrom):
            if node.module in TREES:
                needs[name].append(node.module)
        while needs:
            free = [name for name in needs if not any(other in needs for other in needs[name])]
            self.assertTrue(free, "files import from each other")
            for name in free:
                del needs[name]


class Code(unittest.TestCase):
    def test_module_level(self):
        for name, tree in TREES.items():
            for at, node in enumerate(tree.body):
                kinds = (ast.ImportFrom, ast.Import, ast.FunctionDef, ast.ClassDef, ast.Assign, ast.AnnAssign)
                is_docstring = at == 0 and isinstance(node, ast.Expr) and isinstance(node.value, ast.Constant)
                is_start = name == PACKAGE + ".__main__" and isinstance(node, ast.If)
                self.assertTrue(isinstance(node, kinds) or is_docstring or is_start, (name, node.lineno))
            names = bound_names(tree)
            self.assertEqual(len(names), len(set(names)), name)

    def test_statements_and_values(self):
        self.assertEqual(nodes(BARRED_CODE), [])
        for name, node in nodes(ast.Constant):
            self.assertNotIsInstance(node.value, (float, complex), name)
        for name, node in nodes(ast.ExceptHandler):
            self.assertIsNotNone(node.type, name)
        for name, node in nodes((ast.FunctionDef, ast.ClassDef)):
            for decorator in node.decorator_list:
                self.assertRegex(ast.unparse(decorator), r"^(property|staticmethod|classmethod|\w+\.setter)$", name)

    def test_builtins(self):
        known = set(dir(builtins))
        for name, node in nodes(ast.Name):
            if node.id in known:
                self.assertIn(node.id, BUILTINS, name)
                self.assertIsInstance(node.ctx, ast.Load, (name, node.id))
        for name, node in nodes(ast.arg):
            self.assertNotIn(node.arg, known, name)
        for name, tree in TREES.items():
            for bound in bound_names(tree):
                self.assertNotIn(bound, known, name)

    def test_methods(self):
        own = {node.name for _, node in nodes(ast.FunctionDef)}
        own |= {node.attr for _, node in nodes(ast.Attribute) if isinstance(node.ctx, ast.Store)}
        for name, node in nodes(ast.Call):
            if isinstance(node.func, ast.Attribute):
                self.assertIn(node.func.attr, METHODS | own, name)

    def test_names(self):
        for name, node in nodes((ast.Name, ast.arg, ast.FunctionDef, ast.ClassDef, ast.Attribute)):
            found = [getattr(node, field) for field in ("id", "arg", "name", "attr") if hasattr(node, field)]
            for word in found:
                self.assertNotIn(word, BARRED, name)
                self.assertRegex(word, r"^(_|_?[A-Za-z][A-Za-z0-9_]*|__[a-z]+__)$", name)

    def test_local_names(self):
        for name, tree in TREES.items():
            outer = {alias.asname or alias.name for node in tree.body if isinstance(node, ast.ImportFrom)
                     for alias in node.names}
            outer |= {node.name for node in tree.body if isinstance(node, ast.ClassDef)}
            for node in ast.walk(tree):
                if isinstance(node, ast.arg):
                    self.assertNotIn(node.arg, outer, name)
                if isinstance(node, ast.Name) and isinstance(node.ctx, ast.Store):
                    self.assertNotIn(node.id, outer, name)

    def test_names_that_are_left_out_are_not_read(self):
        for name, node in nodes(ast.Name):
            if node.id == "_":
                self.assertIsInstance(node.ctx, ast.Store, name)

    def test_methods_and_attributes_of_one_class_have_different_names(self):
        for name, node in nodes(ast.ClassDef):
            methods = [found.name for found in node.body if isinstance(found, ast.FunctionDef)]
            self.assertEqual(len(methods), len(set(methods)), (name, node.name))
            for found in ast.walk(node):
                if isinstance(found, ast.Attribute) and isinstance(found.ctx, ast.Store):
                    self.assertNotIn(found.attr, methods, (name, node.name))

    def test_strings(self):
        for name, node in nodes(ast.Constant):
            if isinstance(node.value, str):
                self.assertIsNone(re.search(r"%|^__.*__$|\._$|\.__$", node.value), (name, node.value))

    def test_words(self):
        pattern = re.compile(r"\b(typing|typing_extensions|enum|Enum|IntEnum|StrEnum|Flag|IntFlag|Generic|Protocol|ABC"
                             r"|ABCMeta|namedtuple|NamedTuple|TypedDict|TYPE_CHECKING|abstractmethod)\b"
                             r"|dataclass|overload|contextmanager|_wall")
        for name, node in nodes((ast.Name, ast.Attribute, ast.alias, ast.arg)):
            self.assertIsNone(pattern.search(ast.unparse(node)), name)


if __name__ == "__main__":
    unittest.main()
