"""Rules of shared/LANGUAGE.md that can be read off the files: sizes, characters, imports, statements, names."""

import ast
import builtins
import re
import unittest
from pathlib import Path

PACKAGE = Path(__file__).resolve().parent.parent / "echofold"
FILES = sorted(path for path in PACKAGE.rglob("*") if "__pycache__" not in path.parts)
LIBRARY = {"heapq", "math", "itertools", "collections"}
ALLOWED = set("""len range enumerate zip min max sum abs sorted reversed int str bool list tuple dict set isinstance ord repr
    any all divmod pow iter next super property staticmethod classmethod Exception ValueError TypeError KeyError IndexError
    LookupError ZeroDivisionError ArithmeticError OverflowError RuntimeError NotImplementedError NotImplemented""".split())
DUNDERS = set("""init eq repr str len enter exit call iter lt le gt ge ne add sub mul floordiv mod pow and or xor lshift rshift
    neg pos invert abs bool contains getitem setitem""".split())
BARRED_NODES = (ast.Global, ast.AsyncFunctionDef, ast.AsyncFor, ast.AsyncWith, ast.Await, ast.Div, ast.GeneratorExp, ast.Import,
                ast.Set, ast.SetComp, ast.AnnAssign)
BARRED_NAMES = {"register", "mro", "elements", "open", "input", "law", "version_info", "with_traceback", "add_note"}
BARRED_WORDS = re.compile(r"\b(type|typing|enum|Enum|Flag|Generic|Protocol|ABC|namedtuple|NamedTuple)\b|dataclass|overload|_wall")

METHODS = set("""append clear copy count endswith extend find get index insert isalnum isalpha isdigit islower isspace isupper
    items join keys ljust lower lstrip partition pop remove replace reverse rfind rjust rpartition rsplit rstrip setdefault split
    splitlines startswith strip update upper values zfill bit_length add discard __init__""".split())


def definitions(tree):
    return [node for node in ast.walk(tree) if isinstance(node, (ast.FunctionDef, ast.ClassDef))]


def bound_names(tree):
    """All names that the file gives to something of its own, and all attributes."""
    names = [node.name for node in definitions(tree)]
    names += [node.arg for node in ast.walk(tree) if isinstance(node, ast.arg)]
    names += [node.id for node in ast.walk(tree) if isinstance(node, ast.Name) and isinstance(node.ctx, ast.Store)]
    return names + [node.attr for node in ast.walk(tree) if isinstance(node, ast.Attribute)]


class TestLanguage(unittest.TestCase):
    def each(self, check):
        for path in FILES:
            with self.subTest(path.name):
                text = path.read_text(encoding="utf-8")
                check(text, ast.parse(text))

    def test_the_folder_holds_plain_files_only(self):
        self.assertIn(PACKAGE / "__init__.py", FILES)
        for path in FILES:
            self.assertRegex(path.name, r"^[a-z][a-z0-9_]*\.py$|^__init__\.py$")

    def test_sizes_and_characters(self):
        def check(text, tree):
            self.assertRegex(text, r"\A[ -~\n]*\Z")
            self.assertLess(len(text.splitlines()), 400)
            self.assertLessEqual(max(map(len, text.splitlines())), 120)
            for node in definitions(tree):
                if isinstance(node, ast.FunctionDef):
                    self.assertLessEqual(node.end_lineno - node.lineno + 1, 40, node.name)
        self.each(check)

    def test_imports_name_modules_of_the_package(self):
        def check(_, tree):
            for node in ast.walk(tree):
                if isinstance(node, ast.ImportFrom):
                    self.assertEqual(node.level, 0)
                    self.assertTrue(node.module.startswith("echofold.") or node.module in LIBRARY, node.module)
                    self.assertIn(node, tree.body)
        self.each(check)

    def test_statements_and_expressions(self):
        def check(_, tree):
            for node in ast.walk(tree):
                self.assertNotIsInstance(node, BARRED_NODES)
                if isinstance(node, ast.Constant):
                    self.assertNotIsInstance(node.value, (float, complex))
                    self.assertNotIn("%", node.value if isinstance(node.value, str) else "")
        self.each(check)

    def test_builtins_are_those_of_the_subset_and_keep_their_meaning(self):
        def check(_, tree):
            for node in ast.walk(tree):
                if isinstance(node, ast.Name) and hasattr(builtins, node.id):
                    self.assertIn(node.id, ALLOWED)
                    self.assertIsInstance(node.ctx, ast.Load)
            for name in bound_names(tree):
                self.assertNotIn(name, BARRED_NAMES)
        self.each(check)

    def test_methods_are_own_ones_or_those_of_the_subset(self):
        trees = [ast.parse(path.read_text(encoding="utf-8")) for path in FILES]
        own = {node.name for tree in trees for node in definitions(tree)}

        def check(_, tree):
            for node in ast.walk(tree):
                if isinstance(node, ast.Call) and isinstance(node.func, ast.Attribute):
                    self.assertIn(node.func.attr, METHODS | own)
        self.each(check)

    def test_stars_stand_before_names_and_attributes(self):
        trees = [ast.parse(path.read_text(encoding="utf-8")) for path in FILES]
        decorated = {node.name for tree in trees for node in definitions(tree) if node.decorator_list}

        def check(_, tree):
            for node in ast.walk(tree):
                for argument in node.args if isinstance(node, ast.Call) else []:
                    if isinstance(argument, ast.Starred):
                        self.assertIsInstance(argument.value, (ast.Name, ast.Attribute))
                        self.assertNotIn(getattr(argument.value, "attr", ""), decorated)
        self.each(check)

    def test_no_file_imports_one_that_imports_it(self):
        imports = {}

        def check(_, tree):
            modules = [node.module for node in tree.body if isinstance(node, ast.ImportFrom)]
            imports[len(imports)] = {module.split(".")[-1] for module in modules}
        self.each(check)
        left = {path.stem: imports[at] for at, path in enumerate(FILES)}
        while left:
            free = [name for name, wanted in left.items() if not wanted & set(left)]
            self.assertTrue(free, left)
            left = {name: wanted for name, wanted in left.items() if name not in free}

    def test_imported_names_are_defined_in_the_file_that_is_named(self):
        trees = {f"echofold.{path.stem}": ast.parse(path.read_text(encoding="utf-8")) for path in FILES}

        def check(_, tree):
            for node in tree.body:
                if isinstance(node, ast.ImportFrom) and node.module in trees:
                    body = trees[node.module].body
                    bound = [part.name for part in body if isinstance(part, (ast.FunctionDef, ast.ClassDef))]
                    bound += [part.targets[0].id for part in body if isinstance(part, ast.Assign)]
                    for alias in node.names:
                        self.assertIn(alias.name, bound)
                        self.assertIsNone(alias.asname)
        self.each(check)

    def test_no_function_has_the_name_of_a_generator(self):
        trees = [ast.parse(path.read_text(encoding="utf-8")) for path in FILES]
        made = [node for tree in trees for node in definitions(tree) if isinstance(node, ast.FunctionDef)]
        for maker in made:
            if any(isinstance(node, (ast.Yield, ast.YieldFrom)) for node in ast.walk(maker)):
                self.assertEqual([node.name for node in made].count(maker.name), 1)

    def test_names(self):
        def check(text, tree):
            for name in bound_names(tree):
                self.assertTrue(not name.startswith("__") or name[2:-2] in DUNDERS, name)
            code = ast.unparse(tree)
            self.assertIsNone(BARRED_WORDS.search(code))
        self.each(check)

    def test_imported_names_and_classes_are_not_used_for_anything_else(self):
        def check(_, tree):
            taken = [alias.name for node in tree.body if isinstance(node, ast.ImportFrom) for alias in node.names]
            top = [node.name for node in tree.body if isinstance(node, (ast.FunctionDef, ast.ClassDef))]
            classes = [node.name for node in tree.body if isinstance(node, ast.ClassDef)]
            self.assertEqual(len(set(taken + top)), len(taken + top))
            inner = [node.arg for node in ast.walk(tree) if isinstance(node, ast.arg)]
            inner += [node.id for node in ast.walk(tree) if isinstance(node, ast.Name) and isinstance(node.ctx, ast.Store)]
            self.assertFalse(set(inner) & set(taken + classes))
        self.each(check)


if __name__ == "__main__":
    unittest.main()
