"""The rules of LANGUAGE.md that a look at the syntax tree can check, for each file of the package."""

import ast
import builtins
import os
import unittest

FOLDER = os.path.join(os.path.dirname(os.path.dirname(os.path.abspath(__file__))), "wholeconic")

LIBRARY = {
    "heapq": {"heappush", "heappop", "heapify", "heapreplace", "heappushpop"},
    "math": {"gcd", "lcm", "isqrt", "comb", "perm", "factorial"},
    "itertools": {
        "product", "combinations", "permutations", "chain", "accumulate", "pairwise", "islice", "zip_longest"},
    "collections": {"defaultdict", "deque"},
}
BUILTINS = set(
    "len range enumerate zip min max sum abs sorted reversed int str bool list tuple dict set frozenset isinstance"
    " ord repr any all divmod pow map iter next super getattr hasattr setattr type True False None Exception"
    " ValueError TypeError KeyError IndexError LookupError ZeroDivisionError ArithmeticError OverflowError"
    " RuntimeError NotImplementedError AttributeError StopIteration NotImplemented property staticmethod"
    " classmethod object".split())
METHODS = set(
    "append clear copy count endswith extend find get index insert isalnum isalpha isdigit islower isspace isupper"
    " items join keys ljust lower lstrip partition pop remove replace reverse rfind rjust rpartition rsplit rstrip"
    " setdefault split splitlines startswith strip update upper values zfill bit_length add discard sort".split())
MODULE_LEVEL = (ast.Expr, ast.ImportFrom, ast.FunctionDef, ast.ClassDef, ast.Assign)
BARRED = (
    ast.Import, ast.AsyncFunctionDef, ast.AsyncFor, ast.AsyncWith, ast.Await, ast.Div, ast.MatMult, ast.NamedExpr,
    ast.Global, ast.Set)


def sources():
    found = {}
    for name in sorted(os.listdir(FOLDER)):
        if name != "__pycache__":
            with open(os.path.join(FOLDER, name), "rb") as file:
                found[name] = file.read()
    return found


def nodes():
    """Return a list of (file's name, node) for all nodes of all files."""
    return [(name, node) for name, source in sources().items() for node in ast.walk(ast.parse(source))]


def bound_names(node):
    if isinstance(node, ast.Name) and isinstance(node.ctx, ast.Store):
        return [node.id]
    if isinstance(node, ast.arg):
        return [node.arg]
    if isinstance(node, (ast.FunctionDef, ast.ClassDef)):
        return [node.name]
    return []


def exponent_is_allowed(node, loops):
    if isinstance(node, ast.Constant):
        return type(node.value) is int and 0 <= node.value <= 64
    return isinstance(node, ast.Name) and node.id in loops


class TestLanguage(unittest.TestCase):

    def test_files(self):
        self.assertIn("__init__.py", sources())
        for name, source in sources().items():
            self.assertRegex(name, r"^[a-z_][a-z0-9_]*\.py$")
            self.assertLessEqual(len(source.splitlines()), 399, name)
            for number, line in enumerate(source.split(b"\n"), 1):
                self.assertLessEqual(len(line), 120, (name, number))
                self.assertTrue(all(32 <= sign < 127 for sign in line), (name, number))

    def test_imports(self):
        for name, node in nodes():
            if isinstance(node, ast.ImportFrom):
                self.assertEqual(node.level, 0, name)
                words = {alias.name for alias in node.names}
                self.assertFalse(any(alias.asname for alias in node.names), (name, node.lineno))
                if node.module in LIBRARY:
                    self.assertLessEqual(words, LIBRARY[node.module], (name, node.lineno))
                else:
                    self.assertRegex(node.module, r"^wholeconic\.[a-z_]+$")
                    self.assertIn(node.module.split(".")[1] + ".py", sources())

    def test_imports_name_the_file_that_defines_them(self):
        for name, node in nodes():
            if isinstance(node, ast.ImportFrom) and node.module not in LIBRARY:
                tree = ast.parse(sources()[node.module.split(".")[1] + ".py"])
                defined = {word for one in tree.body for part in ast.walk(one) for word in bound_names(part)}
                self.assertLessEqual({alias.name for alias in node.names}, defined, (name, node.lineno))

    def test_module_level(self):
        for name, source in sources().items():
            for node in ast.parse(source).body:
                self.assertIsInstance(node, MODULE_LEVEL, name)
                if isinstance(node, ast.Expr):
                    self.assertIsInstance(node.value, ast.Constant, name)
                if isinstance(node, ast.Assign):
                    self.assertFalse([part for part in ast.walk(node.value) if isinstance(part, ast.Call)], name)
                    eval(compile(ast.Expression(node.value), name, "eval"), {"__builtins__": {}})

    def test_functions_are_short_and_undecorated(self):
        for name, node in nodes():
            if isinstance(node, ast.FunctionDef):
                self.assertLessEqual(node.end_lineno - node.lineno + 1, 40, (name, node.name))
                self.assertEqual(node.decorator_list, [], (name, node.name))

    def test_each_function_and_class_is_described(self):
        for name, node in nodes():
            if isinstance(node, (ast.Module, ast.ClassDef)):
                self.assertTrue(ast.get_docstring(node), name)
            if isinstance(node, ast.FunctionDef) and not node.name.startswith("__"):
                self.assertTrue(ast.get_docstring(node), (name, node.name))

    def test_statements_and_operators(self):
        for name, node in nodes():
            self.assertNotIsInstance(node, BARRED, name)
            if isinstance(node, ast.Constant):
                self.assertNotIsInstance(node.value, (float, complex), (name, node.lineno))

    def test_builtins(self):
        barred = set(dir(builtins)) - BUILTINS
        for name, node in nodes():
            if isinstance(node, ast.Name):
                self.assertNotIn(node.id, barred, (name, node.lineno))
            for word in bound_names(node):
                self.assertNotIn(word, dir(builtins), (name, node.lineno))

    def test_no_other_name_is_that_of_an_import_or_a_class(self):
        for name, source in sources().items():
            tree = ast.parse(source)
            taken = {alias.name for node in tree.body if isinstance(node, ast.ImportFrom) for alias in node.names}
            taken |= {node.name for node in tree.body if isinstance(node, ast.ClassDef)}
            for node in ast.walk(tree):
                if not isinstance(node, ast.ClassDef):
                    self.assertFalse(taken & set(bound_names(node)), (name, bound_names(node)))

    def test_no_imports_in_a_ring(self):
        wanted = {name: [] for name in sources()}
        for name, node in nodes():
            if isinstance(node, ast.ImportFrom) and node.module not in LIBRARY:
                wanted[name].append(node.module.split(".")[1] + ".py")
        while wanted:
            free = [name for name in wanted if not any(other in wanted for other in wanted[name])]
            self.assertTrue(free, wanted)
            for name in free:
                del wanted[name]

    def test_methods(self):
        own = {
            part.name for _, node in nodes() if isinstance(node, ast.ClassDef)
            for part in node.body if isinstance(part, ast.FunctionDef)}
        for name, node in nodes():
            if isinstance(node, ast.Call) and isinstance(node.func, ast.Attribute):
                self.assertIn(node.func.attr, METHODS | own, (name, node.lineno))

    def test_exponents(self):
        for name, node in nodes():
            if not isinstance(node, ast.FunctionDef):
                continue
            loops = {part.target.id for part in ast.walk(node)
                     if isinstance(part, (ast.For, ast.comprehension)) and isinstance(part.target, ast.Name)
                     and isinstance(part.iter, ast.Call) and all(isinstance(n, ast.Constant) for n in part.iter.args)}
            for part in ast.walk(node):
                if isinstance(part, ast.BinOp) and isinstance(part.op, ast.Pow):
                    self.assertTrue(exponent_is_allowed(part.right, loops), (name, part.lineno))

    def test_no_percent_sign_in_strings(self):
        for name, node in nodes():
            if isinstance(node, ast.Constant) and isinstance(node.value, str):
                self.assertNotIn("%", node.value, (name, node.lineno))


if __name__ == "__main__":
    unittest.main()
