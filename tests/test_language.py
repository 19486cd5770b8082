"""The rules of the language subset that can be seen file by file.

They are few and mechanical: sizes, characters, imports, statements, names and calls.
"""

import ast
import builtins
import pathlib
import unittest

PACKAGE = pathlib.Path(__file__).resolve().parent.parent / "boutstairs"
FILES = sorted(PACKAGE.glob("*.py"))
BUILTINS = {
    "len", "range", "enumerate", "zip", "min", "max", "sum", "abs", "sorted", "reversed", "int", "str", "bool",
    "list", "tuple", "dict", "set", "isinstance", "ord", "repr", "any", "all", "divmod", "ValueError", "KeyError",
    "iter", "next", "map"}
METHODS = set(
    "append clear copy count endswith extend find get index insert isalnum isalpha isdigit islower isspace isupper "
    "items join keys ljust lower lstrip partition pop remove replace reverse rfind rjust rpartition rsplit rstrip "
    "setdefault split splitlines startswith strip update upper values zfill bit_length add discard removeprefix".split())
LIBRARY = {
    "heapq": {"heappush", "heappop", "heapify", "heapreplace", "heappushpop"},
    "math": {"gcd", "lcm", "isqrt", "comb", "perm", "factorial"},
    "itertools": {"product", "combinations", "permutations"}}
WORDS = {
    "register", "mro", "elements", "open", "input", "law", "version_info", "with_traceback", "add_note", "attrgetter",
    "breakpoint", "builtins", "compile", "copyright", "credits", "delattr", "dir", "eval", "exec", "exit", "gc",
    "globals", "help", "id", "importlib", "license", "locals", "methodcaller", "os", "quit", "super", "type", "vars",
    "sys", "typing", "enum", "dataclass", "overload", "contextmanager", "_record"}
ALLOWED = (
    ast.Module, ast.FunctionDef, ast.ClassDef, ast.Import, ast.ImportFrom, ast.Assign, ast.AugAssign, ast.If,
    ast.While, ast.For, ast.Return, ast.Break, ast.Continue, ast.Pass, ast.Raise, ast.Assert, ast.Delete, ast.Try,
    ast.Expr)


def bound_names(tree):
    """Every name that a file binds, with its line."""
    for node in ast.walk(tree):
        if isinstance(node, (ast.FunctionDef, ast.ClassDef)):
            yield node.name, node.lineno
        elif isinstance(node, ast.arg):
            yield node.arg, node.lineno
        elif isinstance(node, ast.Name) and isinstance(node.ctx, ast.Store):
            yield node.id, node.lineno


def local_names(tree):
    """Every parameter and local variable, with its line."""
    for function in ast.walk(tree):
        if isinstance(function, ast.FunctionDef):
            for node in ast.walk(function):
                if isinstance(node, ast.arg):
                    yield node.arg, node.lineno
                elif isinstance(node, ast.Name) and isinstance(node.ctx, ast.Store):
                    yield node.id, node.lineno


class Language(unittest.TestCase):
    def setUp(self):
        self.texts = {path.name: path.read_text(encoding="utf-8") for path in FILES}
        self.trees = {name: ast.parse(text) for name, text in self.texts.items()}

    def test_folder_holds_python_files_alone(self):
        there = [path.name for path in PACKAGE.iterdir() if path.name != "__pycache__"]
        self.assertEqual(sorted(there), [path.name for path in FILES])
        self.assertIn("__init__.py", there)
        self.assertLessEqual(len(there), 100)

    def test_sizes_and_characters(self):
        for name, text in self.texts.items():
            rows = text.split("\n")
            self.assertLessEqual(len(rows), 400, name)
            for index, row in enumerate(rows):
                self.assertLessEqual(len(row), 120, (name, index + 1))
                self.assertTrue(all(" " <= letter <= "~" for letter in row), (name, index + 1))
            for node in ast.walk(self.trees[name]):
                if isinstance(node, ast.FunctionDef):
                    self.assertLessEqual(node.end_lineno - node.lineno + 1, 40, (name, node.name))

    def test_imports(self):
        for name, tree in self.trees.items():
            for node in ast.walk(tree):
                self.assertNotIsInstance(node, ast.Import, name)
                if not isinstance(node, ast.ImportFrom):
                    continue
                self.assertIn(node, tree.body, name)
                self.assertEqual(node.level, 0, name)
                for alias in node.names:
                    self.assertIsNone(alias.asname, name)
                    if node.module in LIBRARY:
                        self.assertIn(alias.name, LIBRARY[node.module], name)
                    else:
                        self.assert_defined(node.module, alias.name)

    def assert_defined(self, module, name):
        package, _, file = module.partition(".")
        self.assertEqual(package, "boutstairs")
        tops = []
        for node in self.trees[file + ".py"].body:
            if isinstance(node, (ast.FunctionDef, ast.ClassDef)):
                tops.append(node.name)
            elif isinstance(node, ast.Assign):
                tops.append(node.targets[0].id)
        self.assertIn(name, tops, module)

    def test_no_circles_of_imports(self):
        after = {}
        for name, tree in self.trees.items():
            modules = [node.module for node in tree.body if isinstance(node, ast.ImportFrom)]
            after[name] = [m.partition(".")[2] + ".py" for m in modules if m.startswith("boutstairs.")]
        done = {}

        def visit(name, above):
            self.assertNotIn(name, above)
            for other in after[name]:
                if not done.get(other):
                    visit(other, above + [name])
            done[name] = True

        for name in after:
            visit(name, [])

    def test_statements(self):
        for name, tree in self.trees.items():
            for node in ast.walk(tree):
                if isinstance(node, ast.stmt):
                    self.assertIsInstance(node, ALLOWED, (name, node.lineno))
                self.assertFalse(isinstance(node, ast.BinOp) and isinstance(node.op, ast.Div), name)
                self.assertFalse(isinstance(node, ast.Constant) and isinstance(node.value, (float, complex)), name)
                if isinstance(node, ast.Constant) and isinstance(node.value, str):
                    self.assertNotIn("%", node.value, (name, node.lineno))
                if isinstance(node, ast.BinOp) and isinstance(node.op, ast.Pow):
                    self.assertIsInstance(node.right, ast.Constant, (name, node.lineno))

    def test_names(self):
        for name, tree in self.trees.items():
            tops = [node for node in tree.body if isinstance(node, (ast.ImportFrom, ast.ClassDef))]
            taken = [alias.name for node in tops if isinstance(node, ast.ImportFrom) for alias in node.names]
            taken.extend([node.name for node in tops if isinstance(node, ast.ClassDef)])
            for bound, row in bound_names(tree):
                if bound != "__init__":
                    self.assertFalse(hasattr(builtins, bound), (name, row, bound))
                    self.assertNotIn(bound, WORDS, (name, row))
                    self.assertFalse(bound.startswith("__"), (name, row, bound))
            for bound, row in local_names(tree):
                self.assertNotIn(bound, taken, (name, row))
            tops = [node.name for node in tree.body if isinstance(node, ast.FunctionDef)]
            self.assertEqual(len(tops + taken), len(set(tops + taken)), name)

    def own_methods(self):
        """The methods of the package's classes; none has the name of a builtin value's method."""
        classes = [node for tree in self.trees.values() for node in tree.body if isinstance(node, ast.ClassDef)]
        found = {node.name for each in classes for node in each.body if isinstance(node, ast.FunctionDef)}
        for kind in (str, int, list, dict, set, bytes, tuple):
            for method in found - {"__init__"}:
                self.assertFalse(hasattr(kind, method), method)
        return found

    def test_calls(self):
        methods = METHODS | self.own_methods()
        for name, tree in self.trees.items():
            for node in ast.walk(tree):
                if isinstance(node, ast.Name) and isinstance(node.ctx, ast.Load) and hasattr(builtins, node.id):
                    self.assertIn(node.id, BUILTINS, (name, node.lineno))
                if isinstance(node, ast.Call) and isinstance(node.func, ast.Attribute):
                    self.assertIn(node.func.attr, methods, (name, node.lineno))

    def test_identity_is_asked_of_constants_alone(self):
        for name, tree in self.trees.items():
            for node in ast.walk(tree):
                if isinstance(node, ast.Compare):
                    for sign, other in zip(node.ops, node.comparators):
                        if isinstance(sign, (ast.Is, ast.IsNot)):
                            self.assertIsInstance(other, ast.Constant, (name, node.lineno))


if __name__ == "__main__":
    unittest.main()
