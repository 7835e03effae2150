"""The rules of the form that a look at the files can see (LANGUAGE.md)."""

import ast
import builtins
import re
import unittest
from pathlib import Path

PACKAGE = Path(__file__).parent.parent / "turnlines"

LIBRARY = {
    "heapq": "heappush heappop heapify heapreplace heappushpop",
    "math": "gcd lcm isqrt comb perm factorial",
    "itertools": "product combinations permutations chain accumulate pairwise islice zip_longest",
    "collections": "defaultdict deque",
}

BUILTINS = """
    len range enumerate zip min max sum abs sorted reversed int str bool list tuple dict set isinstance ord repr any
    all divmod pow map iter next ValueError TypeError KeyError IndexError LookupError ZeroDivisionError
""".split()

METHODS = """
    append clear copy count endswith extend find get index insert isalnum isalpha isdigit islower isspace isupper
    items join keys ljust lower lstrip partition pop remove replace reverse rfind rjust rpartition rsplit rstrip
    setdefault split splitlines startswith strip update upper values zfill bit_length sort add discard
""".split()

BARRED_WORDS = """
    type typing typing_extensions enum Enum IntEnum StrEnum Flag IntFlag Generic Protocol ABC ABCMeta namedtuple
    NamedTuple TypedDict TYPE_CHECKING abstractmethod dataclass overload contextmanager _wall _WallAttr
""".split()

BARRED_NODES = (
    ast.AsyncFunctionDef, ast.Global, ast.Div, ast.Import, ast.Await, ast.Lambda, ast.Yield, ast.YieldFrom, ast.Try,
)


def package_files():
    """Go through the files of the package, each with its text and its tree."""
    for path in sorted(PACKAGE.glob("**/*.py")):
        text = path.read_text()
        yield path, text, ast.parse(text)


def module_of(path):
    """Tell the full name of the module that a file holds."""
    return ".".join(path.relative_to(PACKAGE.parent).with_suffix("").parts)


def own_names(tree):
    """List what a file binds at module level by itself."""
    found = []
    for node in tree.body:
        if isinstance(node, (ast.FunctionDef, ast.ClassDef)):
            found.append(node.name)
        elif isinstance(node, ast.Assign):
            found.append(node.targets[0].id)
    return found


def bound_names(tree):
    """List all names that a file gives a meaning."""
    found = own_names(tree)
    for node in ast.walk(tree):
        if isinstance(node, ast.Name) and isinstance(node.ctx, ast.Store):
            found.append(node.id)
        elif isinstance(node, ast.arg):
            found.append(node.arg)
    return found


def arguments_and_variables(tree):
    """List the names of all parameters and local variables of a file."""
    found = []
    for node in tree.body:
        if isinstance(node, (ast.FunctionDef, ast.ClassDef)):
            found += [name for name in bound_names(ast.Module(body=[node], type_ignores=[])) if name != node.name]
    return found


def calls_of(tree, names):
    """List the calls of some names, each with what it stands in."""
    above = {below: node for node in ast.walk(tree) for below in ast.iter_child_nodes(node)}
    calls = [node for node in ast.walk(tree) if isinstance(node, ast.Call) and isinstance(node.func, ast.Name)]
    return [(node, above) for node in calls if node.func.id in names]


class FilesTest(unittest.TestCase):
    def test_folder_holds_files_of_the_package_only(self):
        for path in PACKAGE.glob("**/*"):
            if "__pycache__" not in path.parts:
                self.assertRegex(path.name, r"^([a-z][a-z0-9_]*|__init__)\.py$")
        self.assertTrue((PACKAGE / "__init__.py").is_file())

    def test_sizes(self):
        for path, text, tree in package_files():
            self.assertLessEqual(len(text.splitlines()), 399, path)
            self.assertLessEqual(max([len(line) for line in text.splitlines()]), 120, path)
            for node in ast.walk(tree):
                if isinstance(node, ast.FunctionDef):
                    self.assertLessEqual(node.end_lineno - node.lineno + 1, 40, (path, node.name))

    def test_signs(self):
        for path, text, tree in package_files():
            self.assertEqual([], re.findall(r"[^ -~\n]", text), path)
            for node in ast.walk(tree):
                if isinstance(node, ast.Constant) and isinstance(node.value, str):
                    self.assertNotIn("%", node.value, path)
                self.assertNotIsInstance(getattr(node, "value", None), float, path)

    def test_barred_words(self):
        for path, text, _ in package_files():
            for word in BARRED_WORDS:
                self.assertIsNone(re.search(rf"\b{word}\b", text), (path, word))


class ModulesTest(unittest.TestCase):
    def test_module_level(self):
        for path, _, tree in package_files():
            names = own_names(tree)
            self.assertEqual(len(names), len(set(names)), path)
            for at, node in enumerate(tree.body):
                if isinstance(node, ast.Assign):
                    self.assertEqual(1, len(node.targets), path)
                    ast.literal_eval(node.value)
                elif isinstance(node, ast.Expr):
                    self.assertEqual(0, at, path)
                    self.assertIsInstance(node.value.value, str, path)
                else:
                    self.assertIsInstance(node, (ast.ImportFrom, ast.FunctionDef, ast.ClassDef), path)

    def test_imports(self):
        trees = {module_of(path): tree for path, _, tree in package_files()}
        for module, tree in trees.items():
            for node in ast.walk(tree):
                if isinstance(node, ast.ImportFrom):
                    self.assertEqual(0, node.level, module)
                    known = LIBRARY[node.module].split() if node.module in LIBRARY else own_names(trees[node.module])
                    for name in node.names:
                        self.assertIn(name.name, known, module)
                        self.assertIsNone(name.asname, module)

    def test_no_circles_of_imports(self):
        left = {}
        for path, _, tree in package_files():
            imported = [node.module for node in ast.walk(tree) if isinstance(node, ast.ImportFrom)]
            left[module_of(path)] = [name for name in imported if name not in LIBRARY]
        while left:
            free = [name for name in left if not any(other in left for other in left[name])]
            self.assertNotEqual([], free, left)
            for name in free:
                del left[name]


class CallsTest(unittest.TestCase):
    def test_products_are_iterated_at_once(self):
        for path, _, tree in package_files():
            for node, above in calls_of(tree, ["product", "combinations", "permutations"]):
                self.assertEqual([], node.keywords, path)
                self.assertIsInstance(above[node], (ast.comprehension, ast.For), path)
                self.assertNotIsInstance(above[above[node]], ast.GeneratorExp, path)

    def test_sets_stand_in_sorted_or_len(self):
        for path, _, tree in package_files():
            self.assertEqual([], [node for node in ast.walk(tree) if isinstance(node, (ast.Set, ast.SetComp))], path)
            for node, above in calls_of(tree, ["set", "frozenset"]):
                outer = above[node]
                while isinstance(outer, ast.BinOp):
                    outer = above[outer]
                self.assertIn(outer.func.id, ["sorted", "len"], path)

    def test_iterated_on_the_spot(self):
        taking = "list tuple dict sorted sum any all enumerate zip min max reversed".split()
        taking += ["product", "combinations", "permutations"]
        for path, _, tree in package_files():
            for node, above in calls_of(tree, ["zip", "enumerate", "reversed", "range"]):
                outer = above[node]
                if isinstance(outer, ast.Call):
                    self.assertIn(outer.func.id, taking, path)
                else:
                    self.assertIsInstance(outer, (ast.comprehension, ast.For), (path, node.lineno))


class NamesTest(unittest.TestCase):
    def test_nodes(self):
        for path, _, tree in package_files():
            for node in ast.walk(tree):
                self.assertNotIsInstance(node, BARRED_NODES, path)
                self.assertEqual([], getattr(node, "decorator_list", []), path)

    def test_builtins(self):
        for path, _, tree in package_files():
            for node in ast.walk(tree):
                if isinstance(node, ast.Name) and hasattr(builtins, node.id):
                    self.assertIn(node.id, BUILTINS, path)
            for name in bound_names(tree):
                self.assertFalse(hasattr(builtins, name), (path, name))
                self.assertRegex(name, r"^(_|_?[A-Za-z][A-Za-z0-9_]*)$", path)

    def test_names_of_imports_and_classes_have_one_meaning(self):
        for path, _, tree in package_files():
            taken = [node.name for node in tree.body if isinstance(node, ast.ClassDef)]
            for node in tree.body:
                if isinstance(node, ast.ImportFrom):
                    taken += [name.name for name in node.names]
            self.assertEqual(len(taken), len(set(taken)), path)
            self.assertEqual([], sorted(set(taken) & set(arguments_and_variables(tree))), path)

    def test_identity_and_powers(self):
        for path, _, tree in package_files():
            for node in ast.walk(tree):
                self.assertNotIsInstance(node, ast.Pow, path)
                if isinstance(node, ast.Compare) and isinstance(node.ops[0], (ast.Is, ast.IsNot)):
                    self.assertIsInstance(node.comparators[0], ast.Constant, path)

    def test_methods(self):
        for path, _, tree in package_files():
            for node in ast.walk(tree):
                if isinstance(node, ast.Call) and isinstance(node.func, ast.Attribute):
                    self.assertIn(node.func.attr, METHODS, path)


if __name__ == "__main__":
    unittest.main()
