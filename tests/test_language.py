"""The rules of the language that can be read off the files: their numbers stand beside each test."""

import ast
import builtins
import pathlib
import unittest

import blindtill

PACKAGE = pathlib.Path(blindtill.__file__).parent

LIBRARY = {"heapq": {"heappush", "heappop", "heapify", "heapreplace", "heappushpop"},
           "math": {"gcd", "lcm", "isqrt", "comb", "perm", "factorial"},
           "itertools": {"product", "combinations", "permutations", "chain", "accumulate", "pairwise", "islice",
                         "zip_longest"},
           "collections": {"defaultdict"}}

BUILTINS = set(
    "len range enumerate zip min max sum abs sorted reversed int str bool list tuple dict set isinstance ord repr any "
    "all divmod pow iter next map super property staticmethod classmethod Exception ValueError TypeError KeyError "
    "IndexError LookupError ZeroDivisionError ArithmeticError OverflowError RuntimeError NotImplementedError "
    "AttributeError StopIteration NotImplemented".split())

METHODS = set(
    "append clear copy count endswith extend find get index insert isalnum isalpha isdigit islower isspace isupper "
    "items join keys ljust lower lstrip partition pop remove replace reverse rfind rjust rpartition rsplit rstrip "
    "setdefault split splitlines startswith strip update upper values zfill bit_length sort add discard".split())

BARRED_NAMES = set(
    "register mro elements open input law version_info with_traceback add_note attrgetter breakpoint builtins compile "
    "copyright credits delattr dir eval exec exit gc globals help id importlib license locals methodcaller os quit "
    "type vars sys".split())

BARRED = (ast.Global, ast.AsyncFunctionDef, ast.Await, ast.Import, ast.Div, ast.AnnAssign)


def sources():
    return [(path, path.read_text(encoding="utf-8")) for path in sorted(PACKAGE.glob("**/*.py"))]


def nodes():
    return [(path, node) for path, text in sources() for node in ast.walk(ast.parse(text))]


def own_names():
    """The names of the package's functions, classes and methods."""
    found = set()
    for _, node in nodes():
        if isinstance(node, (ast.FunctionDef, ast.ClassDef)):
            found.add(node.name)
    return found


class TestLanguage(unittest.TestCase):
    def test_l1_l14_files(self):
        for path in PACKAGE.glob("**/*"):
            if "__pycache__" not in path.parts:
                with self.subTest(path=path.name):
                    self.assertEqual(path.suffix, ".py")
                    self.assertEqual(path.name, path.name.lower())
        for path, text in sources():
            with self.subTest(path=path.name):
                self.assertTrue(all(sign == "\n" or " " <= sign <= "~" for sign in text))

    def test_l2_l16_imports(self):
        for path, node in nodes():
            if isinstance(node, ast.ImportFrom):
                with self.subTest(path=path.name, line=node.lineno):
                    self.assertEqual(node.level, 0)
                    self.assertTrue(all(alias.asname is None for alias in node.names))
                    if node.module in LIBRARY:
                        self.assertLessEqual({alias.name for alias in node.names}, LIBRARY[node.module])
                    else:
                        self.assertTrue(node.module.startswith("blindtill."))
                        home = PACKAGE.joinpath(*node.module.split(".")[1:]).with_suffix(".py")
                        defined = ast.parse(home.read_text(encoding="utf-8")).body
                        bound = {getattr(row, "name", None) for row in defined} | {
                            row.targets[0].id for row in defined if isinstance(row, ast.Assign)}
                        self.assertLessEqual({alias.name for alias in node.names}, bound)

    def test_l3_module_level(self):
        for path, text in sources():
            for place, node in enumerate(ast.parse(text).body):
                with self.subTest(path=path.name, line=node.lineno):
                    self.assertTrue(isinstance(node, (ast.ImportFrom, ast.FunctionDef, ast.ClassDef, ast.Assign)) or (
                        place == 0 and isinstance(node, ast.Expr)))

    def test_l6_l7_l21_what_is_left_out(self):
        for path, node in nodes():
            with self.subTest(path=path.name, line=getattr(node, "lineno", None)):
                self.assertNotIsInstance(node, BARRED)
                self.assertNotIsInstance(getattr(node, "value", None), (float, complex))

    def test_l8_l15_builtins(self):
        for path, node in nodes():
            if isinstance(node, ast.Name):
                with self.subTest(path=path.name, line=node.lineno, name=node.id):
                    if isinstance(node.ctx, ast.Load):
                        self.assertTrue(not hasattr(builtins, node.id) or node.id in BUILTINS)
                    else:
                        self.assertFalse(hasattr(builtins, node.id))
            if isinstance(node, ast.arg):
                with self.subTest(path=path.name, line=node.lineno, name=node.arg):
                    self.assertFalse(hasattr(builtins, node.arg))

    def test_l10_size(self):
        for path, text in sources():
            lines = text.split("\n")
            with self.subTest(path=path.name):
                self.assertLessEqual(len(lines), 400)
                self.assertLessEqual(max(map(len, lines)), 120)
        for path, node in nodes():
            if isinstance(node, ast.FunctionDef):
                with self.subTest(path=path.name, name=node.name):
                    self.assertLessEqual(node.end_lineno - node.lineno + 1, 40)

    def test_l12_l17_names(self):
        for path, node in nodes():
            for name in (getattr(node, "id", None), getattr(node, "arg", None), getattr(node, "name", None)):
                if isinstance(name, str):
                    with self.subTest(path=path.name, name=name):
                        self.assertNotIn(name, BARRED_NAMES)
                        self.assertTrue(not name.startswith("__") or name.endswith("__"))
            if isinstance(node, ast.Name) and node.id == "_":
                with self.subTest(path=path.name, line=node.lineno):
                    self.assertIsInstance(node.ctx, ast.Store)

    def test_l15_no_local_name_is_an_import_or_a_class_of_its_file(self):
        for path, text in sources():
            tree = ast.parse(text)
            above = {alias.name for row in tree.body if isinstance(row, ast.ImportFrom) for alias in row.names}
            above |= {row.name for row in tree.body if isinstance(row, ast.ClassDef)}
            for node in ast.walk(tree):
                if isinstance(node, ast.arg) or (isinstance(node, ast.Name) and isinstance(node.ctx, ast.Store)):
                    with self.subTest(path=path.name, line=node.lineno):
                        self.assertNotIn(getattr(node, "id", None) or getattr(node, "arg", None), above)

    def test_l15_each_name_is_bound_once(self):
        for path, text in sources():
            bound = []
            for row in ast.parse(text).body:
                if isinstance(row, ast.ImportFrom):
                    bound += [alias.name for alias in row.names]
                elif isinstance(row, (ast.FunctionDef, ast.ClassDef)):
                    bound.append(row.name)
                elif isinstance(row, ast.Assign):
                    bound += [target.id for target in row.targets]
            with self.subTest(path=path.name):
                self.assertEqual(sorted(set(bound)), sorted(bound))
                self.assertFalse([name for name in bound if hasattr(builtins, name)])

    def test_l16_no_two_files_import_from_each_other(self):
        imported = {}
        for path, text in sources():
            imported[path.stem] = [row.module.split(".")[-1] for row in ast.parse(text).body
                                   if isinstance(row, ast.ImportFrom) and row.module.startswith("blindtill.")]
        done = []
        while len(done) < len(imported):
            ready = [name for name in imported if name not in done and set(imported[name]) <= set(done)]
            self.assertNotEqual(ready, [])
            done += ready

    def test_l25_methods(self):
        known = METHODS | own_names() | {"__init__"}
        for path, node in nodes():
            if isinstance(node, ast.Call) and isinstance(node.func, ast.Attribute):
                with self.subTest(path=path.name, line=node.lineno):
                    self.assertIn(node.func.attr, known)

    def test_l27_strings(self):
        for path, node in nodes():
            if isinstance(node, ast.Constant) and isinstance(node.value, str):
                with self.subTest(path=path.name, line=node.lineno):
                    self.assertNotIn("%", node.value)
                    self.assertFalse(node.value.startswith("__") and node.value.endswith("__"))


if __name__ == "__main__":
    unittest.main()
