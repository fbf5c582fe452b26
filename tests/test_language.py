"""What can be seen of the language's rules: files, sizes, imports, names, calls."""

import ast
import builtins
import pathlib
import unittest

PACKAGE = pathlib.Path(__file__).resolve().parent.parent / "veiledchains"
FILES = sorted(path for path in PACKAGE.rglob("*") if path.is_file() and "__pycache__" not in path.parts)
LIBRARY = {"math": {"gcd", "lcm", "isqrt", "comb", "perm", "factorial"}}
BUILTINS = set(
    "len range enumerate zip min max sum abs sorted reversed int str bool list tuple dict set isinstance ord any all "
    "divmod ValueError".split()
)
METHODS = set(
    "append clear copy count endswith extend find get index insert isalnum isalpha isascii isdigit islower isspace "
    "isupper items join keys ljust lower lstrip partition pop remove replace reverse rfind rjust rpartition rsplit "
    "rstrip setdefault split splitlines startswith strip update upper values zfill bit_length __init__".split()
)
STATEMENTS = (
    ast.FunctionDef, ast.ClassDef, ast.Assign, ast.AugAssign, ast.If, ast.While, ast.For, ast.Return, ast.Raise,
    ast.ImportFrom, ast.Expr, ast.Pass, ast.Break, ast.Continue,
)


def bound_names(node):
    if isinstance(node, (ast.FunctionDef, ast.ClassDef)):
        return [node.name]
    if isinstance(node, ast.arg):
        return [node.arg]
    if isinstance(node, ast.alias):
        return [node.asname or node.name]
    if isinstance(node, ast.Name) and isinstance(node.ctx, ast.Store):
        return [node.id]
    return []


def module_names(tree):
    names = []
    for node in tree.body:
        names += bound_names(node)
        if isinstance(node, ast.Assign):
            names += [target.id for target in node.targets]
    return names


def own_methods(trees):
    """The names of the package's own methods; none of them may be one of builtin values."""
    found = set()
    for tree in trees:
        for node in tree.body:
            if isinstance(node, ast.ClassDef):
                found |= {one.name for one in node.body if isinstance(one, ast.FunctionDef)}
    builtin = {name for kind in (str, int, list, dict, set, bytes, tuple) for name in dir(kind)} - {"__init__"}
    assert not found & builtin, found & builtin
    return found


class Language(unittest.TestCase):
    def trees(self):
        for path in FILES:
            yield path, ast.parse(path.read_text("ascii"))

    def nodes(self):
        for path, tree in self.trees():
            for node in ast.walk(tree):
                yield f"{path.name}:{getattr(node, 'lineno', 0)}", node

    def test_files(self):
        self.assertIn(PACKAGE / "__init__.py", FILES)
        for path in FILES:
            self.assertRegex(path.name, r"^[a-z_]+\.py$")
            text = path.read_bytes().decode("ascii")
            self.assertEqual([sign for sign in text if not (" " <= sign <= "~" or sign == "\n")], [], path)
            self.assertLessEqual(len(text.splitlines()), 399, path)
            self.assertLessEqual(max([len(line) for line in text.splitlines()]), 120, path)

    def test_functions_are_short_and_plain(self):
        for place, node in self.nodes():
            if isinstance(node, ast.FunctionDef):
                self.assertLessEqual(node.end_lineno - node.lineno + 1, 40, place)
                self.assertEqual(node.decorator_list, [], place)

    def test_imports(self):
        defined = {path.stem: module_names(tree) for path, tree in self.trees()}
        for path, tree in self.trees():
            for node in ast.walk(tree):
                self.assertNotIsInstance(node, ast.Import, path)
                if isinstance(node, ast.ImportFrom):
                    self.assertIn(node, tree.body, path)
                    package, _, module = node.module.partition(".")
                    known = defined[module] if package == "veiledchains" else LIBRARY[node.module]
                    for alias in node.names:
                        self.assertIn(alias.name, known, path)
                        self.assertIsNone(alias.asname, path)

    def test_names_are_bound_once_and_are_no_builtins(self):
        for path, tree in self.trees():
            names = module_names(tree)
            for node in tree.body:
                if isinstance(node, ast.ImportFrom):
                    names += [alias.name for alias in node.names]
            self.assertEqual(len(names), len(set(names)), path)
            above = {alias.name for node in tree.body if isinstance(node, ast.ImportFrom) for alias in node.names}
            above |= {node.name for node in tree.body if isinstance(node, ast.ClassDef)}
            inner = [name for node in ast.walk(tree) if isinstance(node, (ast.arg, ast.Name)) for name in bound_names(node)]
            self.assertEqual(above & set(inner), set(), path)
        for place, node in self.nodes():
            for name in bound_names(node):
                self.assertNotIn(name, vars(builtins), place)

    def test_statements_and_calls(self):
        own = own_methods([tree for _, tree in self.trees()])
        for place, node in self.nodes():
            if isinstance(node, ast.stmt):
                self.assertIsInstance(node, STATEMENTS, place)
            if isinstance(node, ast.Constant):
                self.assertNotIsInstance(node.value, (float, complex), place)
            self.assertNotIsInstance(node, (ast.Div, ast.Global), place)
            if isinstance(node, ast.Name) and node.id in vars(builtins):
                self.assertIn(node.id, BUILTINS, place)
            if isinstance(node, ast.Call) and isinstance(node.func, ast.Attribute):
                self.assertIn(node.func.attr, METHODS | own, place)


if __name__ == "__main__":
    unittest.main()
