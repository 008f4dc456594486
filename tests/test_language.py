"""What can be seen of the rules of the language: sizes, words, imports, signs."""

import ast
import builtins
import unittest
import warnings
from pathlib import Path

PACKAGE = Path(__file__).resolve().parent.parent / "likespans"
LIBRARY = {
    "math": {"gcd", "lcm", "isqrt", "comb", "perm", "factorial"},
    "heapq": {"heappush", "heappop", "heapify", "heapreplace", "heappushpop"},
    "itertools": {"product", "combinations", "permutations"},
}
BUILTINS = set(
    "len range enumerate zip min max sum abs sorted reversed int str bool list tuple dict set isinstance ord repr "
    "any all divmod ValueError NotImplemented".split()
)
METHODS = set(
    "append clear copy count endswith extend find get index insert items join keys pop remove replace reverse "
    "setdefault split startswith strip update values add discard".split()
)
NO_NAMES = set(
    "register mro elements open input law version_info with_traceback add_note attrgetter breakpoint builtins compile "
    "copyright delattr dir eval exec exit gc globals help id importlib license locals methodcaller os quit vars sys "
    "type typing enum Enum Flag Generic Protocol ABC namedtuple".split()
)
NO_NODES = (
    ast.Global, ast.AsyncFunctionDef, ast.ExceptHandler, ast.With, ast.Lambda, ast.GeneratorExp, ast.Yield, ast.YieldFrom,
    ast.Div, ast.NamedExpr, ast.Starred, ast.AnnAssign, ast.Nonlocal, ast.Match, ast.Import, ast.Delete,
)
DOUBLE = {
    "__init__", "__eq__", "__repr__", "__add__", "__radd__", "__sub__", "__rsub__", "__mul__", "__rmul__", "__neg__",
}


def trees():
    """The name, the text and the tree of each file of the package."""
    found = []
    for path in sorted(PACKAGE.rglob("*.py")):
        text = path.read_text()
        found.append((path.stem, text, ast.parse(text)))
    return found


def nodes(kind):
    """All nodes of a kind, with the names of their files."""
    return [(name, node) for name, _, tree in trees() for node in ast.walk(tree) if isinstance(node, kind)]


def own_methods():
    """The names of all methods of the package."""
    found = set()
    for _, owner in nodes(ast.ClassDef):
        found |= {node.name for node in owner.body if isinstance(node, ast.FunctionDef)}
    return found


class LanguageTest(unittest.TestCase):

    def test_files(self):
        names = [path.name for path in PACKAGE.iterdir() if path.name != "__pycache__"]
        self.assertIn("__init__.py", names)
        self.assertTrue(all(name.endswith(".py") and name == name.lower() for name in names), names)

    def test_sizes(self):
        for name, text, _ in trees():
            self.assertLessEqual(len(text.splitlines()), 399, name)
            self.assertLessEqual(max([len(line) for line in text.splitlines()]), 120, name)
            self.assertTrue(all(sign == "\n" or " " <= sign <= "~" for sign in text), name)
        for name, node in nodes(ast.FunctionDef):
            self.assertLessEqual(node.end_lineno - node.lineno + 1, 40, (name, node.name))

    def test_statements_and_expressions(self):
        self.assertEqual([(name, node.lineno) for name, node in nodes(NO_NODES)], [])
        self.assertEqual([(n, d.name) for n, d in nodes((ast.FunctionDef, ast.ClassDef)) if d.decorator_list], [])
        for name, node in nodes(ast.Constant):
            self.assertNotIsInstance(node.value, (float, complex), (name, node.lineno))
        for name, node in nodes(ast.AugAssign):
            self.assertTrue(isinstance(node.value, ast.Constant) and type(node.value.value) is int, (name, node.lineno))
        for name, node in nodes(ast.Compare):
            for sign, side in zip(node.ops, node.comparators):
                if isinstance(sign, (ast.Is, ast.IsNot)):
                    self.assertIsInstance(side, ast.Constant, (name, node.lineno))

    def test_what_stands_in_a_finally(self):
        for name, node in nodes(ast.Try):
            self.assertTrue(node.finalbody and not node.orelse, (name, node.lineno))
            for row in node.finalbody:
                self.assertIsInstance(row, ast.Assign, (name, row.lineno))
                self.assertIsInstance(row.value, (ast.Name, ast.Attribute), (name, row.lineno))

    def test_imports(self):
        own = {}
        for name, node in nodes(ast.ImportFrom):
            asked = {alias.name for alias in node.names}
            self.assertTrue(all(alias.asname is None for alias in node.names))
            if node.module in LIBRARY:
                self.assertLessEqual(asked, LIBRARY[node.module], name)
            else:
                self.assertTrue(node.module.startswith("likespans."), (name, node.module))
                own.setdefault(name, set()).add(node.module.split(".")[1])
        while own:
            free = [name for name, asked in own.items() if not asked & set(own)]
            self.assertTrue(free, own)
            own = {name: asked for name, asked in own.items() if name not in free}

    def test_names(self):
        known = set(dir(builtins))
        for name, node in nodes((ast.FunctionDef, ast.ClassDef, ast.arg, ast.Name, ast.Attribute)):
            word = getattr(node, "name", None) or getattr(node, "arg", None)
            word = word or getattr(node, "id", None) or node.attr
            self.assertNotIn(word, NO_NAMES, (name, node.lineno))
            bound = not isinstance(node, (ast.Name, ast.Attribute)) or isinstance(node.ctx, ast.Store)
            if bound and not isinstance(node, ast.Attribute):
                self.assertNotIn(word, known, (name, node.lineno))
            if isinstance(node, ast.Name) and not bound and word in known:
                self.assertIn(word, BUILTINS, (name, node.lineno))
            if word.startswith("__"):
                self.assertIn(word, DOUBLE, (name, node.lineno))

    def test_methods_that_are_called(self):
        let = METHODS | own_methods()
        for name, node in nodes(ast.Call):
            if isinstance(node.func, ast.Attribute):
                self.assertIn(node.func.attr, let, (name, node.lineno))

    def test_locals_have_no_names_of_the_file(self):
        for name, _, tree in trees():
            taken = set()
            for node in tree.body:
                if isinstance(node, ast.ImportFrom):
                    taken |= {alias.name for alias in node.names}
                elif isinstance(node, (ast.FunctionDef, ast.ClassDef)):
                    taken.add(node.name)
            inside = [n.id for n in ast.walk(tree) if isinstance(n, ast.Name) and isinstance(n.ctx, ast.Store)]
            inside += [n.arg for n in ast.walk(tree) if isinstance(n, ast.arg)]
            self.assertFalse(taken & set(inside), name)

    def test_python_gives_no_warning(self):
        for name, text, _ in trees():
            with warnings.catch_warnings():
                warnings.simplefilter("error")
                compile(text, name, "exec")

    def test_any_and_its_kin_take_no_generator(self):
        for name, node in nodes(ast.Call):
            if isinstance(node.func, ast.Name) and node.func.id in ("any", "all", "min", "max", "sum", "sorted"):
                self.assertFalse([x for x in node.args if isinstance(x, (ast.GeneratorExp, ast.Starred))], name)
                self.assertTrue(all(word.arg in ("key", "default", "reverse") for word in node.keywords), name)


if __name__ == "__main__":
    unittest.main()
