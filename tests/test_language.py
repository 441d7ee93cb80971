"""The rules of LANGUAGE.md that a test can see by itself: sizes, signs, imports, names, builtins, methods."""

import ast
import pathlib
import re
import unittest

FOLDER = pathlib.Path(__file__).resolve().parent.parent / "termyard"
FILES = sorted(FOLDER.rglob("*.py"))
BUILTINS = set("""len range enumerate zip min max sum abs sorted reversed int str bool list tuple dict set isinstance ord
    repr any all divmod map iter next super Exception ValueError TypeError KeyError IndexError LookupError
    NotImplemented""".split())
METHODS = set("""append clear copy count endswith extend find get index insert isalnum isalpha isdigit islower isspace
    isupper items join keys ljust lower lstrip partition pop remove replace reverse rfind rjust rpartition rsplit rstrip
    setdefault split splitlines startswith strip update upper values zfill bit_length add discard""".split())
LIBRARY = {"heapq", "math", "itertools"}
DOUBLE = set("""__init__ __eq__ __repr__ __str__ __len__ __enter__ __exit__ __call__ __iter__""".split())
BARRED = re.compile(r"\b(type|typing|enum|register|mro|elements|open|input|law|eval|exec|getattr|setattr|id|vars)\b")
BARRED_IN_TEXTS = re.compile(r"\b(typing|enum|Generic|Protocol|namedtuple|abstractmethod)\b|dataclass|overload|contextmanager")
PREFIXES = ("_wall", "_pe_", "_dcw_", "_enum_", "_cm_", "_twin_re_", "_lay_", "_law_", "_stub_", "_sre", "__")
REFUSED = (ast.Global, ast.AsyncFunctionDef, ast.Set, ast.Div, ast.GeneratorExp)


def trees():
    return [(path, ast.parse(path.read_text(encoding="utf-8"))) for path in FILES]


def own_names(tree):
    return [row.name for row in tree.body if isinstance(row, (ast.FunctionDef, ast.ClassDef))] + [
        target.id for row in tree.body if isinstance(row, ast.Assign) for target in row.targets]


def imports(tree):
    return [row for row in tree.body if isinstance(row, ast.ImportFrom)]


def bound_within(node):
    """The names that a function binds, its parameters among them."""
    given = [arg.arg for row in ast.walk(node) if isinstance(row, ast.arguments)
             for arg in row.posonlyargs + row.args + row.kwonlyargs]
    caught = [row.name for row in ast.walk(node) if isinstance(row, ast.ExceptHandler) and row.name]
    return given + caught + [row.id for row in ast.walk(node) if isinstance(row, ast.Name) and isinstance(row.ctx, ast.Store)]


class LanguageTest(unittest.TestCase):
    def test_the_folder(self):
        there = [path for path in FOLDER.rglob("*") if "__pycache__" not in path.parts]
        self.assertEqual(sorted(there), FILES)
        self.assertIn(FOLDER / "__init__.py", FILES)

    def test_sizes_and_signs(self):
        for path in FILES:
            text = path.read_text(encoding="utf-8")
            rows = text.split("\n")
            self.assertLessEqual(len(rows), 399, path)
            for row in rows:
                self.assertLessEqual(len(row), 120, f"{path}: {row}")
            self.assertTrue(all(sign == "\n" or " " <= sign <= "~" for sign in text), path)
            for node in ast.walk(ast.parse(text)):
                if isinstance(node, ast.FunctionDef):
                    self.assertLessEqual(node.end_lineno - node.lineno + 1, 40, f"{path}: {node.name}")

    def test_the_package_file_binds_nothing(self):
        tree = ast.parse((FOLDER / "__init__.py").read_text(encoding="utf-8"))
        self.assertTrue(all(isinstance(row, ast.Expr) for row in tree.body))

    def test_imports_come_from_the_file_that_has_the_name(self):
        named = {"termyard." + path.stem: own_names(tree) for path, tree in trees()}
        for path, tree in trees():
            self.assertEqual([row for row in ast.walk(tree) if isinstance(row, ast.Import)], [], path)
            for row in imports(tree):
                self.assertIn(row.module, set(named) | LIBRARY)
                for alias in row.names:
                    self.assertIsNone(alias.asname)
                    self.assertIn(alias.name, named.get(row.module, [alias.name]), path)

    def test_no_two_files_import_from_each_other(self):
        table = {"termyard." + path.stem: [row.module for row in imports(tree) if row.module not in LIBRARY]
                 for path, tree in trees()}
        done = []
        while len(done) < len(table):
            more = [name for name in table if name not in done and all(one in done for one in table[name])]
            self.assertTrue(more, f"a ring of imports among {sorted(set(table) - set(done))}")
            done += more

    def test_what_is_imported_is_used(self):
        for path, tree in trees():
            used = [node.id for node in ast.walk(tree) if isinstance(node, ast.Name)]
            for row in imports(tree):
                for alias in row.names:
                    self.assertIn(alias.name, used, path)

    def test_names(self):
        for path, tree in trees():
            barred = {alias.name for row in imports(tree) for alias in row.names} | {
                row.name for row in tree.body if isinstance(row, ast.ClassDef)}
            self.assertEqual(len(own_names(tree)), len(set(own_names(tree))), path)
            for node in ast.walk(tree):
                if isinstance(node, ast.FunctionDef):
                    self.assertTrue(node.name in DOUBLE or not node.name.startswith(PREFIXES), node.name)
                    for name in bound_within(node):
                        self.assertNotIn(name, barred | BUILTINS, f"{path}: {node.name}")
                        self.assertFalse(name.startswith(PREFIXES), name)

    def test_builtins_and_methods(self):
        methods = METHODS | own_methods() | {"__init__"}
        for path, tree in trees():
            known = set(own_names(tree)) | BUILTINS | {alias.name for row in imports(tree) for alias in row.names}
            known |= set(bound_within(tree))
            for node in ast.walk(tree):
                if isinstance(node, ast.Name) and isinstance(node.ctx, ast.Load):
                    self.assertIn(node.id, known, path)
                if isinstance(node, ast.Call) and isinstance(node.func, ast.Attribute):
                    self.assertIn(node.func.attr, methods, path)

    def test_what_stands_nowhere(self):
        for path, tree in trees():
            for node in ast.walk(tree):
                self.assertNotIsInstance(node, REFUSED, path)
                if isinstance(node, ast.Compare):
                    for sign, side in zip(node.ops, node.comparators):
                        if isinstance(sign, (ast.Is, ast.IsNot)):
                            self.assertTrue(isinstance(side, ast.Constant) and side.value in (None, True, False), path)
                if isinstance(node, ast.Constant) and isinstance(node.value, float):
                    self.fail(f"{path}: a float")
                if isinstance(node, ast.FunctionDef):
                    self.assertEqual(node.decorator_list, [], path)

    def test_words_that_stand_in_no_row(self):
        for path, tree in trees():
            docs = {id(node.body[0].value) for node in ast.walk(tree) if has_doc(node)}
            for node in ast.walk(tree):
                for word in [getattr(node, field, None) for field in ("id", "name", "arg", "attr")]:
                    if isinstance(word, str):
                        self.assertIsNone(BARRED.search(word), f"{path}: {word}")
                if isinstance(node, ast.Constant) and isinstance(node.value, str) and id(node) not in docs:
                    self.assertNotIn("%", node.value)
                    self.assertIsNone(BARRED_IN_TEXTS.search(node.value), f"{path}: {node.value}")

    def test_each_has_its_docstring(self):
        for path, tree in trees():
            for node in ast.walk(tree):
                if isinstance(node, (ast.Module, ast.ClassDef)):
                    self.assertTrue(has_doc(node), path)
                if isinstance(node, ast.FunctionDef) and not node.name.startswith("__"):
                    self.assertTrue(has_doc(node), f"{path}: {node.name}")


def own_methods():
    return {row.name for _, tree in trees() for node in ast.walk(tree) if isinstance(node, ast.ClassDef)
            for row in node.body if isinstance(row, ast.FunctionDef)}


def has_doc(node):
    return isinstance(node, (ast.Module, ast.ClassDef, ast.FunctionDef)) and ast.get_docstring(node) is not None


if __name__ == "__main__":
    unittest.main()
