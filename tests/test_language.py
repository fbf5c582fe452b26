"""What can be seen of the language's rules: files, sizes, imports, names, calls."""

import ast
import builtins
import pathlib
import unittest

from veiledchains import errors

PACKAGE = pathlib.Path(__file__).resolve().parent.parent / "veiledchains"
FILES = sorted(path for path in PACKAGE.rglob("*") if path.is_file() and "__pycache__" not in path.parts)
LIBRARY = {"math": {"gcd", "lcm", "isqrt", "comb", "perm", "factorial"}}
BUILTINS = set(
    "len range enumerate zip min max sum abs sorted reversed int str bool list tuple dict set isinstance ord any all "
    "divmod ValueError property".split()
)
METHODS = set(
    "append clear copy count endswith extend find get index insert isalnum isalpha isascii isdigit islower isspace "
    "isupper items join keys ljust lower lstrip partition pop remove replace reverse rfind rjust rpartition rsplit "
    "removeprefix removesuffix rstrip setdefault split splitlines startswith strip update upper values zfill bit_length "
    "__init__".split()
)
STATEMENTS = (
    ast.FunctionDef, ast.ClassDef, ast.Assign, ast.AugAssign, ast.If, ast.While, ast.For, ast.Return, ast.Raise,
    ast.ImportFrom, ast.Expr, ast.Pass, ast.Break, ast.Continue, ast.Try,
)
DOUBLE_UNDERSCORES = {"__init__", "__eq__"}


def bound_names(node):
    if isinstance(node, (ast.FunctionDef, ast.ClassDef)):
        return [node.name]
    if isinstance(node, ast.arg):
        return [node.arg]
    if isinstance(node, ast.alias):
        return [node.asname or node.name]
    if isinstance(node, ast.Name) and isinstance(node.ctx, ast.Store):
        return [node.id]
    return []


def module_names(tree):
    names = []
    for node in tree.body:
        names += bound_names(node)
        if isinstance(node, ast.Assign):
            names += [target.id for target in node.targets]
    return names


def own_methods(trees):
    """The names of the package's own methods; of those of builtin values only those of the rule's list may be among them."""
    found = set()
    for tree in trees:
        for node in tree.body:
            if isinstance(node, ast.ClassDef):
                found |= {one.name for one in node.body if isinstance(one, ast.FunctionDef)}
    builtin = {name for kind in (str, int, list, dict, set, bytes, tuple) for name in dir(kind)} - METHODS - DOUBLE_UNDERSCORES
    assert not found & builtin, found & builtin
    return found


def property_names(trees):
    """The names of all properties of the package: beside a star they are no plain attributes."""
    found = set()
    for tree in trees:
        for node in ast.walk(tree):
            if isinstance(node, ast.FunctionDef) and node.decorator_list:
                found.add(node.name)
    return found


def is_told(node, properties):
    """Whether this is a name, an attribute off a name, a literal, or a list, tuple or dict of these."""
    if isinstance(node, ast.Attribute):
        return isinstance(node.value, ast.Name) and node.attr not in properties
    if isinstance(node, (ast.List, ast.Tuple)):
        return all(is_told(item, properties) for item in node.elts)
    if isinstance(node, ast.Dict):
        return all(key is not None and is_told(key, properties) for key in node.keys) and all(
            is_told(item, properties) for item in node.values)
    return isinstance(node, (ast.Name, ast.Constant))


def star_fault(call, properties):
    """Whether a call has behind a star, or behind or beside a double one, what L7 does not list there."""
    stars = [at for at, item in enumerate(call.args) if isinstance(item, ast.Starred)]
    doubles = [word for word in call.keywords if word.arg is None]
    if doubles and (len(call.keywords) > 1 or not isinstance(doubles[0].value, (ast.Name, ast.Attribute))):
        return True
    told = [word.value for word in doubles]
    if stars or doubles:
        told += call.args[0 if doubles else stars[0]:]
        told += [word.value for word in call.keywords]
    told = [item.value if isinstance(item, ast.Starred) else item for item in told]
    return not all(is_told(item, properties) for item in told)


class Language(unittest.TestCase):
    def trees(self):
        for path in FILES:
            yield path, ast.parse(path.read_text("ascii"))

    def nodes(self):
        for path, tree in self.trees():
            for node in ast.walk(tree):
                yield f"{path.name}:{getattr(node, 'lineno', 0)}", node

    def test_files(self):
        self.assertIn(PACKAGE / "__init__.py", FILES)
        for path in FILES:
            self.assertRegex(path.name, r"^[a-z_]+\.py$")
            text = path.read_bytes().decode("ascii")
            self.assertEqual([sign for sign in text if not (" " <= sign <= "~" or sign == "\n")], [], path)
            self.assertLessEqual(len(text.splitlines()), 399, path)
            self.assertLessEqual(max([len(line) for line in text.splitlines()]), 120, path)

    def test_functions_are_short_and_plain(self):
        for place, node in self.nodes():
            if isinstance(node, ast.FunctionDef):
                self.assertLessEqual(node.end_lineno - node.lineno + 1, 40, place)
                self.assertLessEqual({ast.unparse(one) for one in node.decorator_list}, {"property"}, place)

    def test_imports(self):
        defined = {path.stem: module_names(tree) for path, tree in self.trees()}
        for path, tree in self.trees():
            for node in ast.walk(tree):
                self.assertNotIsInstance(node, ast.Import, path)
                if isinstance(node, ast.ImportFrom):
                    self.assertIn(node, tree.body, path)
                    package, _, module = node.module.partition(".")
                    known = defined[module] if package == "veiledchains" else LIBRARY[node.module]
                    for alias in node.names:
                        self.assertIn(alias.name, known, path)
                        self.assertIsNone(alias.asname, path)

    def test_names_are_bound_once_and_are_no_builtins(self):
        for path, tree in self.trees():
            names = module_names(tree)
            for node in tree.body:
                if isinstance(node, ast.ImportFrom):
                    names += [alias.name for alias in node.names]
            self.assertEqual(len(names), len(set(names)), path)
            above = {alias.name for node in tree.body if isinstance(node, ast.ImportFrom) for alias in node.names}
            above |= {node.name for node in tree.body if isinstance(node, ast.ClassDef)}
            inner = [name for node in ast.walk(tree) if isinstance(node, (ast.arg, ast.Name)) for name in bound_names(node)]
            self.assertEqual(above & set(inner), set(), path)
        for place, node in self.nodes():
            for name in bound_names(node):
                self.assertNotIn(name, vars(builtins), place)

    def test_statements_and_calls(self):
        own = own_methods([tree for _, tree in self.trees()])
        for place, node in self.nodes():
            if isinstance(node, ast.stmt):
                self.assertIsInstance(node, STATEMENTS, place)
            if isinstance(node, ast.Constant):
                self.assertNotIsInstance(node.value, (float, complex), place)
            self.assertNotIsInstance(node, (ast.Div, ast.Global), place)
            if isinstance(node, ast.Name) and node.id in vars(builtins):
                self.assertIn(node.id, BUILTINS, place)
            if isinstance(node, ast.Call) and isinstance(node.func, ast.Attribute):
                self.assertIn(node.func.attr, METHODS | own, place)

    def test_properties(self):
        """None has the name of a method, of an attribute that is stored, or of a method of a builtin value."""
        names = property_names([tree for _, tree in self.trees()])
        self.assertEqual(names, {"chain", "view", "log", "version"})
        self.assertFalse(names & {name for kind in (str, int, list, dict, set, bytes, tuple) for name in dir(kind)})
        for place, node in self.nodes():
            if isinstance(node, ast.Attribute) and isinstance(node.ctx, ast.Store):
                self.assertNotIn(node.attr, names, place)
            if isinstance(node, ast.Call) and isinstance(node.func, ast.Attribute):
                self.assertNotIn(node.func.attr, names, place)

    def test_forms_that_are_barred(self):
        for place, node in self.nodes():
            # A class has an __eq__: so any, all, sum and the like take lists.
            self.assertNotIsInstance(node, (ast.GeneratorExp, ast.Set, ast.SetComp, ast.Delete, ast.Assert, ast.Lambda), place)
            if isinstance(node, ast.Compare):
                for sign, right in zip(node.ops, node.comparators):
                    if isinstance(sign, (ast.Is, ast.IsNot)):
                        self.assertIn(ast.unparse(right), ("None", "True", "False"), place)
            if isinstance(node, ast.BinOp) and isinstance(node.op, ast.Pow):
                self.assertIsInstance(node.right, ast.Constant, place)
                self.assertLessEqual(node.right.value, 64, place)
            if isinstance(node, ast.Constant) and isinstance(node.value, str):
                self.assertNotIn("%", node.value, place)
            if isinstance(node, ast.ExceptHandler):
                self.assertIn(ast.unparse(node.type), [name for name in vars(errors) if name[0].isupper()], place)
                self.assertIsNone(node.name, place)
            if isinstance(node, ast.Raise) and node.exc is not None:
                self.assertIsInstance(node.exc, ast.Call, place)

    def test_barred_words(self):
        barred = set(
            "register mro elements open input law version_info with_traceback add_note attrgetter breakpoint builtins compile "
            "copyright credits delattr dir eval exec exit gc getattr globals hasattr help id importlib license locals "
            "methodcaller os quit setattr super type vars sys typing enum Enum Flag Generic Protocol ABC namedtuple".split())
        for place, node in self.nodes():
            names = bound_names(node)
            if isinstance(node, ast.Name):
                names = [node.id]
            if isinstance(node, ast.Attribute):
                names = [node.attr]
            if isinstance(node, ast.Constant) and isinstance(node.value, str):
                names = [node.value]
            self.assertFalse(barred & set(names), place)
            for name in names:
                self.assertFalse(name.startswith("__") and name not in DOUBLE_UNDERSCORES, place)

    def test_sets_are_asked_at_once(self):
        for path, tree in self.trees():
            inner = [ast.unparse(node.args[0]) for node in ast.walk(tree) if isinstance(node, ast.Call) and node.args
                     and isinstance(node.func, ast.Name) and node.func.id in ("sorted", "len")]
            for node in ast.walk(tree):
                if isinstance(node, ast.Call) and isinstance(node.func, ast.Name) and node.func.id == "set":
                    self.assertIn(ast.unparse(node), inner, path)

    def test_no_two_files_import_from_each_other(self):
        imports = {}
        for path, tree in self.trees():
            imports[path.stem] = {node.module.partition(".")[2] for node in ast.walk(tree) if isinstance(node, ast.ImportFrom)} - {""}
        done = set()
        while len(done) < len(imports):
            ready = {name for name in imports if name not in done and imports[name] <= done}
            self.assertTrue(ready, sorted(set(imports) - done))
            done |= ready

    def test_stars_in_calls(self):
        properties = property_names([tree for _, tree in self.trees()])
        for place, node in self.nodes():
            if isinstance(node, ast.Call):
                self.assertFalse(star_fault(node, properties), place)

    def test_stars_are_seen(self):
        for text, wanted in (
            ("f(*xs)", False), ("f(k[0], *xs)", False), ("f(*xs, n, sep=n)", False), ("f(*[a, (b.c, 1)], {1: a})", False),
            ("f(k, **d)", False), ("f(*box.rows, **box.more)", False), ("f(k[0], sep=g(1))", False), ("f()", False),
            ("zip(*even[2])", True), ("f(*g(xs))", True), ("f(*xs[1:])", True), ("f(*(xs + ys))", True),
            ("f(*[x for x in xs])", True), ("f(*a.b.c)", True), ("f(*box.many)", True), ("f(*[xs[0]])", True),
            ("f(*xs, ys[0])", True), ("f(*xs, sep=ys[0])", True), ("f(*{1: g(2)})", True), ("f(*[*xs, g(1)])", True),
            ("f(k[0], **d)", True), ("f(**d[0])", True), ("f(**d, **e)", True), ("f(a=1, **d)", True),
            ("f(**{'a': 1})", True), ("f(**box.many)", True), ("f(**a.b.c)", True), ("f(*f'{x}')", True),
        ):
            call = ast.parse(text).body[0].value
            self.assertEqual(star_fault(call, {"many"}), wanted, text)


if __name__ == "__main__":
    unittest.main()
