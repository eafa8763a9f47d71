"""Those rules of LANGUAGE.md that can be read off a file: L1 to L4, L7, L8, L10, L12, L14 to L17, L20, L24 to L27."""
import ast
import builtins
import pathlib
import re
import unittest
import warnings

PACKAGE = pathlib.Path(__file__).resolve().parent.parent / "followsortable"

LIBRARY = {
    "heapq": {"heappush", "heappop", "heapify", "heapreplace", "heappushpop"},
    "math": {"gcd", "lcm", "isqrt", "comb", "perm", "factorial"},
    "itertools": {
        "product", "combinations", "permutations", "chain", "accumulate", "pairwise", "islice", "zip_longest",
    },
    "collections": {"defaultdict"},
    "__future__": {"annotations"},
}

BUILTINS = set(
    "len range enumerate zip min max sum abs sorted reversed int str bool bytes list tuple dict set frozenset"
    " isinstance ord repr any all divmod pow getattr hasattr setattr iter next map super property staticmethod"
    " classmethod object float Exception ValueError TypeError KeyError IndexError LookupError ZeroDivisionError"
    " ArithmeticError OverflowError RuntimeError NotImplementedError AttributeError StopIteration NotImplemented".split()
)

METHODS = set(
    "__init__ __eq__ __repr__ __str__ __len__ __enter__ __exit__ __call__ __iter__".split()
)

CALLED = set(
    "append clear copy count endswith extend find get index insert isalnum isalpha isdigit islower isspace isupper items"
    " join keys ljust lower lstrip partition pop remove replace reverse rfind rjust rpartition rsplit rstrip setdefault"
    " split splitlines startswith strip update upper values zfill bit_length".split()
)

NO_ATTRIBUTES = set(
    "items keys values pop update append clear extend insert remove reverse setdefault sort args encode decode hex"
    " fromhex format".split()
)

BARRED = set("register mro elements open input law version_info with_traceback add_note".split())

STATEMENTS = (
    ast.Assign, ast.AugAssign, ast.AnnAssign, ast.If, ast.While, ast.For, ast.Return, ast.Break, ast.Continue,
    ast.Pass, ast.Raise, ast.Assert, ast.Delete, ast.Nonlocal, ast.Match, ast.With, ast.Try, ast.Expr,
    ast.FunctionDef, ast.ClassDef, ast.ImportFrom,
)


def files():
    return [(path, path.read_bytes().decode("ascii")) for path in sorted(PACKAGE.rglob("*.py"))]


def names_of(tree):
    """Every name that a file gives or reads."""
    found = set()
    for node in ast.walk(tree):
        for field in ("id", "name", "attr", "arg", "asname"):
            name = getattr(node, field, None)
            if isinstance(name, str) and not isinstance(node, ast.alias):
                found.add(name)
    return found


class Language(unittest.TestCase):
    def test_the_folder_holds_nothing_but_modules(self):
        for path in PACKAGE.iterdir():
            if path.name != "__pycache__":
                self.assertRegex(path.name, r"^[a-z_][a-z0-9_]*\.py$")

    def test_characters(self):
        for path, text in files():
            self.assertIsNone(re.search(r"[^ -~\n]", text), path)

    def test_size(self):
        for path, text in files():
            lines = text.split("\n")
            self.assertLessEqual(len(lines), 399, path)
            self.assertLessEqual(max(len(line) for line in lines), 120, path)
            for node in ast.walk(ast.parse(text)):
                if isinstance(node, ast.FunctionDef):
                    self.assertLessEqual(node.end_lineno - node.lineno + 1, 40, (path, node.name))

    def test_python_gives_no_warning(self):
        with warnings.catch_warnings():
            warnings.simplefilter("error")
            for path, text in files():
                compile(text, str(path), "exec")

    def test_imports(self):
        for path, text in files():
            for node in ast.walk(ast.parse(text)):
                self.assertNotIsInstance(node, ast.Import, path)
                if isinstance(node, ast.ImportFrom):
                    names = {alias.name for alias in node.names}
                    self.assertEqual(node.level, 0, path)
                    if node.module in LIBRARY:
                        self.assertLessEqual(names, LIBRARY[node.module], path)
                        self.assertFalse([alias for alias in node.names if alias.asname], path)
                    else:
                        self.assert_defined(path, node.module, names)

    def assert_defined(self, path, module, names):
        folder, name = module.split(".")
        self.assertEqual(folder, "followsortable", path)
        defined = set()
        for node in ast.parse((PACKAGE / (name + ".py")).read_text()).body:
            if isinstance(node, (ast.FunctionDef, ast.ClassDef)):
                defined.add(node.name)
            if isinstance(node, ast.Assign):
                defined.add(node.targets[0].id)
        self.assertLessEqual(names, defined, path)

    def test_module_level(self):
        for path, text in files():
            body = ast.parse(text).body
            self.assertIsInstance(body[0].value.value, str, path)
            for node in body[1:]:
                self.assertIsInstance(node, (ast.ImportFrom, ast.FunctionDef, ast.ClassDef, ast.Assign), path)

    def test_statements_and_values(self):
        for path, text in files():
            for node in ast.walk(ast.parse(text)):
                if isinstance(node, ast.stmt):
                    self.assertIsInstance(node, STATEMENTS, path)
                self.assertNotIsInstance(node, (ast.Div, ast.Await, ast.AsyncFunctionDef), path)
                if isinstance(node, ast.Constant):
                    self.assertNotIsInstance(node.value, (float, complex), path)
                if isinstance(node, ast.Constant) and isinstance(node.value, str):
                    self.assertNotIn("%", node.value, path)

    def test_values_that_classes_with_an_eq_do_without(self):
        for path, text in files():
            for node in ast.walk(ast.parse(text)):
                self.assertNotIsInstance(node, (ast.GeneratorExp, ast.Yield, ast.YieldFrom, ast.JoinedStr), path)
                if isinstance(node, (ast.FunctionDef, ast.ClassDef)):
                    self.assertEqual(node.decorator_list, [], path)
                if isinstance(node, ast.Compare) and isinstance(node.ops[0], (ast.Is, ast.IsNot)):
                    self.assertIn(ast.unparse(node.comparators[0]), ("None", "True", "False"), path)

    def test_sets_are_sorted_or_counted(self):
        for path, text in files():
            tree = ast.parse(text)
            sets = [node for node in ast.walk(tree) if self.is_set(node)]
            held = []
            for node in ast.walk(tree):
                if isinstance(node, ast.Call) and ast.unparse(node.func) in ("sorted", "len"):
                    held.extend(self.joined(node.args[0]))
            self.assertEqual([ast.unparse(node) for node in sets if node not in held], [], path)

    def is_set(self, node):
        made = isinstance(node, ast.Call) and ast.unparse(node.func) in ("set", "frozenset")
        return made or isinstance(node, (ast.Set, ast.SetComp))

    def joined(self, node):
        """The sets that a value is, or of which it is put together."""
        if isinstance(node, ast.BinOp):
            return self.joined(node.left) + self.joined(node.right)
        return [node]

    def test_methods_and_attributes(self):
        trees = [(path, ast.parse(text)) for path, text in files()]
        classes = [node for _, tree in trees for node in ast.walk(tree) if isinstance(node, ast.ClassDef)]
        own = {node.name for made in classes for node in made.body if isinstance(node, ast.FunctionDef)}
        for path, tree in trees:
            for node in ast.walk(tree):
                if isinstance(node, ast.Call) and isinstance(node.func, ast.Attribute):
                    self.assertIn(node.func.attr, CALLED | own, path)
                if isinstance(node, ast.Attribute) and isinstance(node.ctx, ast.Store):
                    self.assertNotIn(node.attr, NO_ATTRIBUTES, path)
        for made in classes:
            names = [node.name for node in made.body if isinstance(node, ast.FunctionDef)]
            given = {
                node.attr for node in ast.walk(made)
                if isinstance(node, ast.Attribute) and isinstance(node.ctx, ast.Store)
            }
            self.assertEqual(len(names), len(set(names)))
            self.assertFalse(given & set(names), made.name)

    def test_imports_lead_back_nowhere(self):
        asked = {}
        for path, text in files():
            body = ast.parse(text).body
            asked[path.stem] = {
                node.module.split(".")[1] for node in body
                if isinstance(node, ast.ImportFrom) and node.module not in LIBRARY
            }
        while asked:
            free = [name for name in asked if not asked[name] & set(asked)]
            self.assertNotEqual(free, [])
            asked = {name: asked[name] for name in asked if name not in free}

    def test_every_import_is_used(self):
        for path, text in files():
            tree = ast.parse(text)
            taken = {alias.name for node in tree.body if isinstance(node, ast.ImportFrom) for alias in node.names}
            self.assertLessEqual(taken, {node.id for node in ast.walk(tree) if isinstance(node, ast.Name)}, path)

    def test_no_local_name_is_an_import_or_a_class(self):
        for path, text in files():
            tree = ast.parse(text)
            barred = {alias.name for node in tree.body if isinstance(node, ast.ImportFrom) for alias in node.names}
            barred |= {node.name for node in tree.body if isinstance(node, ast.ClassDef)}
            given = {node.arg for node in ast.walk(tree) if isinstance(node, ast.arg)}
            stored = [node for node in ast.walk(tree) if isinstance(node, ast.Name)]
            given |= {node.id for node in stored if isinstance(node.ctx, ast.Store)}
            self.assertFalse(given & barred, path)

    def test_names(self):
        barred = set(dir(builtins))
        for path, text in files():
            tree = ast.parse(text)
            used = {node.id for node in ast.walk(tree) if isinstance(node, ast.Name)}
            self.assertLessEqual(used & barred, BUILTINS, path)
            names = names_of(tree)
            self.assertFalse(names & BARRED, path)
            self.assertLessEqual({name for name in names if name.startswith("__")}, METHODS, path)
            given = {node.name for node in tree.body if isinstance(node, (ast.FunctionDef, ast.ClassDef))}
            given |= {node.arg for node in ast.walk(tree) if isinstance(node, ast.arg)}
            stored = [node for node in ast.walk(tree) if isinstance(node, ast.Name)]
            given |= {node.id for node in stored if isinstance(node.ctx, ast.Store)}
            self.assertFalse(given & barred, path)


if __name__ == "__main__":
    unittest.main()
