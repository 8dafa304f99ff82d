import ast
import pathlib
import unittest

PACKAGE = pathlib.Path(__file__).resolve().parent.parent / "flutterheld"
BUILTINS = set("len range enumerate zip min max sum abs sorted reversed int str bool list tuple dict set isinstance ord repr any "
               "all divmod pow ValueError True False None".split())
BARRED = set("register mro elements open input law type typing enum eval exec getattr hasattr setattr globals locals vars id "
             "hash map filter round next iter print float chr super".split())
LIBRARY = {"math": {"gcd", "isqrt", "lcm"}}


class TestLanguage(unittest.TestCase):
    """The main rules of LANGUAGE.md, by number, as far as they can be seen line by line."""

    def setUp(self):
        self.files = {path: path.read_text() for path in sorted(PACKAGE.rglob("*")) if path.is_file() and path.suffix != ".pyc"}
        self.trees = {path: ast.parse(text) for path, text in self.files.items()}

    def walk(self):
        for path, tree in self.trees.items():
            for node in ast.walk(tree):
                yield path, node

    def test_l1_l14_files_and_characters(self):
        for path, text in self.files.items():
            self.assertRegex(path.name, r"\A[a-z_][a-z0-9_]*\.py\Z")
            self.assertEqual([sign for sign in text if sign != "\n" and not " " <= sign <= "~"], [], path)

    def test_l10_sizes(self):
        for path, text in self.files.items():
            lines = text.split("\n")
            self.assertLessEqual(len(lines), 399, path)
            self.assertLessEqual(max(map(len, lines)), 120, path)
        for path, node in self.walk():
            if isinstance(node, ast.FunctionDef):
                self.assertLessEqual(node.end_lineno - node.lineno + 1, 40, (path, node.name))

    def test_l2_l16_imports(self):
        for path, node in self.walk():
            self.assertNotIsInstance(node, ast.Import, path)
            if isinstance(node, ast.ImportFrom):
                names = {alias.name for alias in node.names}
                self.assertEqual([alias.asname for alias in node.names if alias.asname], [], path)
                if node.module in LIBRARY:
                    self.assertLessEqual(names, LIBRARY[node.module], path)
                else:
                    folder, _, module = node.module.partition(".")
                    self.assertEqual(folder, "flutterheld", path)
                    tree = self.trees[PACKAGE / f"{module}.py"]
                    defined = {part.name for part in tree.body if hasattr(part, "name")}
                    defined |= {part.targets[0].id for part in tree.body if isinstance(part, ast.Assign)}
                    self.assertLessEqual(names, defined, path)

    def test_l3_module_level(self):
        for path, tree in self.trees.items():
            for part in tree.body:
                kinds = (ast.ImportFrom, ast.FunctionDef, ast.ClassDef, ast.Assign, ast.Expr)
                self.assertIsInstance(part, kinds, path)
                if isinstance(part, ast.Expr):
                    self.assertIsInstance(part.value.value, str, path)

    def test_l6_l7_statements_and_values(self):
        barred = (ast.Global, ast.AsyncFunctionDef, ast.Await, ast.GeneratorExp, ast.Lambda, ast.Yield, ast.Set, ast.SetComp, ast.Div)
        for path, node in self.walk():
            self.assertNotIsInstance(node, barred, (path, getattr(node, "lineno", None)))
            if isinstance(node, ast.Constant):
                self.assertNotIsInstance(node.value, (float, complex), path)
                self.assertNotIn("%", node.value if isinstance(node.value, str) else "", path)
            if isinstance(node, ast.FunctionDef):
                self.assertEqual(node.decorator_list, [], path)

    def test_l8_l12_l15_names(self):
        for path, tree in self.trees.items():
            taken = {alias.name for part in tree.body if isinstance(part, ast.ImportFrom) for alias in part.names}
            taken |= {part.name for part in tree.body if isinstance(part, (ast.FunctionDef, ast.ClassDef))}
            for node in ast.walk(tree):
                bound = node.arg if isinstance(node, ast.arg) else None
                if isinstance(node, ast.Name):
                    self.assertNotIn(node.id, BARRED, path)
                    if isinstance(node.ctx, ast.Store):
                        bound = node.id
                self.assertNotIn(bound, taken | BUILTINS | BARRED, path)

    def test_l8_builtins(self):
        for path, tree in self.trees.items():
            known = set(BUILTINS)
            for node in ast.walk(tree):
                known |= {alias.name for alias in getattr(node, "names", ()) if isinstance(alias, ast.alias)}
                known |= {node.name} if isinstance(node, (ast.FunctionDef, ast.ClassDef)) else set()
                known |= {node.arg} if isinstance(node, ast.arg) else set()
                known |= {node.name} if isinstance(node, ast.ExceptHandler) else set()
                known |= {node.id} if isinstance(node, ast.Name) and isinstance(node.ctx, ast.Store) else set()
            used = {node.id for node in ast.walk(tree) if isinstance(node, ast.Name)}
            self.assertLessEqual(used, known, path)

    def test_l25_methods(self):
        own = {part.name for _, node in self.walk() if isinstance(node, ast.ClassDef)
               for part in node.body if isinstance(part, ast.FunctionDef)}
        builtin = set("append clear copy count endswith extend find get index insert items join keys lstrip partition pop remove replace "
                      "rfind rpartition rstrip setdefault split startswith strip update values bit_length".split())
        # A method of its own takes no name that values of Python's own have, but for those that L26 allows.
        self.assertLessEqual({name for name in own if any(hasattr(value, name) for value in (0, "", b"", [], (), {}, set()))
                              and not name.startswith("__")}, {"clear"})
        for path, node in self.walk():
            if isinstance(node, ast.Call) and isinstance(node.func, ast.Attribute):
                self.assertIn(node.func.attr, builtin | own, path)

    def test_l5_l18_classes(self):
        for path, node in self.walk():
            if isinstance(node, ast.ClassDef):
                methods = [part.name for part in node.body if isinstance(part, ast.FunctionDef)]
                self.assertEqual(len(methods), len(set(methods)), node.name)
                double = {name for name in methods if name.startswith("__")}
                self.assertLessEqual(double, {"__init__", "__eq__", "__repr__", "__str__", "__len__"}, node.name)
                attributes = {part.attr for part in ast.walk(node) if isinstance(part, ast.Attribute) and isinstance(part.ctx, ast.Store)}
                self.assertEqual(attributes & set(methods), set(), node.name)

    def test_l3_no_name_within_a_plain_value(self):
        for path, tree in self.trees.items():
            for part in tree.body:
                if isinstance(part, ast.Assign):
                    self.assertEqual([node for node in ast.walk(part.value) if isinstance(node, (ast.Name, ast.Call))], [], path)

    def test_l22_whole_calls_of_own_functions(self):
        counts = {}
        for path, tree in self.trees.items():
            for part in tree.body:
                if isinstance(part, ast.FunctionDef):
                    counts.setdefault(part.name, set()).add(len(part.args.args))
        for path, node in self.walk():
            if isinstance(node, ast.Call) and isinstance(node.func, ast.Name) and node.func.id in counts:
                self.assertIn(len(node.args), counts[node.func.id], (path, node.func.id))


if __name__ == "__main__":
    unittest.main()
