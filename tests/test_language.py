"""The rules of the language that a look at the code can tell: sizes, characters, imports, names, statements."""

import ast
import builtins
import os
import re
import unittest

PACKAGE = os.path.join(os.path.dirname(os.path.dirname(os.path.abspath(__file__))), "sectionwise")
BUILTINS = (
    "len range enumerate zip min max sum abs sorted reversed int str bool bytes list tuple dict set frozenset isinstance ord "
    "repr any all divmod iter next Exception ValueError TypeError KeyError IndexError LookupError ZeroDivisionError "
    "ArithmeticError OverflowError RuntimeError NotImplementedError AttributeError StopIteration NotImplemented"
).split()
# The examples of other tests leave a name _ among the builtins.
ALL_BUILTINS = [name for name in dir(builtins) if name != "_"]
BARRED = "register mro elements open input law version_info with_traceback add_note".split()
WORDS = "type typing enum Enum Flag Generic Protocol ABC namedtuple NamedTuple TypedDict abstractmethod dataclass".split()
LIBRARY = {"heapq", "math", "itertools"}
AT_ONCE = ["zip", "enumerate", "reversed", "range"]
VIEWS = ["items", "keys", "values"]
TAKERS = "list tuple dict sorted sum any all enumerate zip min max len reversed".split()
DOUBLE = ["__init__", "__eq__"]
LISTS_ONLY = ["any", "all", "min", "max", "sum", "sorted"]
STATEMENTS = (
    ast.Global, ast.AsyncFunctionDef, ast.AsyncFor, ast.AsyncWith, ast.Await, ast.Import, ast.Div, ast.MatMult,
)
METHODS = (
    "append clear copy count endswith extend find get index insert isalnum isalpha isdigit islower isspace isupper items join "
    "keys ljust lower lstrip partition pop remove replace reverse rfind rjust rpartition rsplit rstrip setdefault split "
    "splitlines startswith strip update upper values zfill bit_length add discard"
).split()


def files():
    for folder, _, names in os.walk(PACKAGE):
        if not folder.endswith("__pycache__"):
            for name in sorted(names):
                yield os.path.join(folder, name)


def trees():
    for path in files():
        with open(path, encoding="utf-8") as text:
            yield path, ast.parse(text.read())


class Language(unittest.TestCase):

    def test_files_lines_and_characters(self):
        for path in files():
            self.assertRegex(os.path.basename(path), r"^[a-z0-9_]+\.py$")
            with open(path, "rb") as data:
                text = data.read().decode("utf-8")
            lines = text.split("\n")
            self.assertLessEqual(len(lines), 399, path)
            for number, line in enumerate(lines, start=1):
                self.assertLessEqual(len(line), 120, (path, number))
                self.assertTrue(all(" " <= sign <= "~" for sign in line), (path, number))
                self.assertNotRegex(line, r"\b_wall|_WallAttr", (path, number))

    def test_functions_have_at_most_40_lines_and_a_docstring(self):
        for path, tree in trees():
            self.assertTrue(ast.get_docstring(tree), path)
            for node in ast.walk(tree):
                if isinstance(node, ast.FunctionDef):
                    self.assertLessEqual(node.end_lineno - node.lineno + 1, 40, (path, node.name))
                    self.assertTrue(node.name == "__init__" or ast.get_docstring(node), (path, node.name))

    def test_imports_are_of_the_package_and_used(self):
        for path, tree in trees():
            names = {node.id for node in ast.walk(tree) if isinstance(node, ast.Name)}
            for node in ast.walk(tree):
                if isinstance(node, ast.ImportFrom):
                    self.assertIn(node, tree.body)
                    self.assertEqual(node.level, 0)
                    self.assertTrue(node.module in LIBRARY or node.module.startswith("sectionwise."), (path, node.module))
                    for alias in node.names:
                        self.assertIn(alias.name, names, path)

    def test_statements_and_values(self):
        for path, tree in trees():
            for node in ast.walk(tree):
                self.assertNotIsInstance(node, STATEMENTS, (path, getattr(node, "lineno", None)))
                if isinstance(node, ast.Constant):
                    self.assertNotIsInstance(node.value, (float, complex), path)
                    self.assertNotIn("%", str(node.value), path)

    def test_names(self):
        barred = set(BARRED + ALL_BUILTINS)
        for path, tree in trees():
            bound = {}
            for node in ast.walk(tree):
                if isinstance(node, ast.Name) and isinstance(node.ctx, ast.Store):
                    bound[node.id] = node.lineno
                if isinstance(node, ast.arg):
                    bound[node.arg] = node.lineno
                if isinstance(node, (ast.FunctionDef, ast.ClassDef)):
                    bound[node.name] = node.lineno
                if isinstance(node, ast.Attribute):
                    self.assertNotIn(node.attr, BARRED, (path, node.lineno))
            for name, line in bound.items():
                self.assertNotIn(name, barred, (path, line))
                self.assertTrue(name in DOUBLE or not name.startswith("__"), (path, line))

    def test_builtins_and_methods(self):
        own = {node.name for _, tree in trees() for node in ast.walk(tree) if isinstance(node, ast.FunctionDef)}
        for path, tree in trees():
            for node in ast.walk(tree):
                if isinstance(node, ast.Name) and node.id in ALL_BUILTINS:
                    self.assertIn(node.id, BUILTINS, (path, node.lineno))
                if isinstance(node, ast.Call) and isinstance(node.func, ast.Attribute):
                    self.assertIn(node.func.attr, own.union(METHODS), (path, node.lineno))

    def test_what_a_class_that_compares_does_not_allow(self):
        for path, tree in trees():
            for node in ast.walk(tree):
                if isinstance(node, ast.Call) and isinstance(node.func, ast.Name) and node.func.id in LISTS_ONLY:
                    for given in node.args:
                        self.assertNotIsInstance(given, ast.GeneratorExp, (path, node.lineno))
                if isinstance(node, ast.Attribute):
                    self.assertNotEqual(node.attr, "sort", (path, node.lineno))
                if isinstance(node, ast.FunctionDef) and node.name == "__eq__":
                    told = node.body[1:] if ast.get_docstring(node) else node.body
                    self.assertEqual([type(row) for row in told], [ast.Return], (path, node.lineno))

    def test_stars_and_methods(self):
        for path, tree in trees():
            for node in ast.walk(tree):
                if isinstance(node, ast.Starred):
                    self.assertIsInstance(node.value, (ast.Name, ast.Attribute), (path, node.lineno))
                if isinstance(node, ast.ClassDef):
                    methods = [row.name for row in node.body if isinstance(row, ast.FunctionDef)]
                    self.assertEqual(len(methods), len(set(methods)))
                    for part in ast.walk(node):
                        if isinstance(part, ast.Attribute) and isinstance(part.ctx, ast.Store):
                            self.assertNotIn(part.attr, methods, (path, part.lineno))

    def test_what_is_iterated_at_once(self):
        for path, tree in trees():
            allowed = []
            for node in ast.walk(tree):
                if isinstance(node, (ast.For, ast.comprehension)):
                    allowed.append(node.iter)
                if isinstance(node, ast.Call) and isinstance(node.func, ast.Name) and node.func.id in TAKERS:
                    allowed += node.args[:1]
            for node in ast.walk(tree):
                if not isinstance(node, ast.Call):
                    continue
                is_view = isinstance(node.func, ast.Attribute) and node.func.attr in VIEWS
                if is_view or (isinstance(node.func, ast.Name) and node.func.id in AT_ONCE):
                    self.assertIn(node, allowed, (path, node.lineno))

    def test_sets_stand_where_they_may(self):
        for path, tree in trees():
            allowed = []
            for node in ast.walk(tree):
                if isinstance(node, ast.Call) and isinstance(node.func, ast.Name) and node.func.id in ("sorted", "len"):
                    allowed += node.args
                if isinstance(node, ast.Compare):
                    allowed += node.comparators
            for node in ast.walk(tree):
                if isinstance(node, (ast.Set, ast.SetComp)) or (isinstance(node, ast.Call) and getattr(node.func, "id", "") == "set"):
                    self.assertIn(node, allowed, (path, node.lineno))

    def test_what_a_loop_goes_over_is_not_changed_in_it(self):
        for path, tree in trees():
            for node in ast.walk(tree):
                if isinstance(node, ast.For):
                    names = {part.id for part in ast.walk(node.iter) if isinstance(part, ast.Name)}
                    changed = set()
                    for part in [more for row in node.body for more in ast.walk(row)]:
                        if isinstance(part, ast.Subscript) and not isinstance(part.ctx, ast.Load) and isinstance(part.value, ast.Name):
                            changed.add(part.value.id)
                        if isinstance(part, ast.Call) and isinstance(part.func, ast.Attribute) and isinstance(part.func.value, ast.Name):
                            if part.func.attr in ("append", "extend", "pop", "remove", "insert", "clear", "update", "setdefault"):
                                changed.add(part.func.value.id)
                    self.assertEqual(names & changed, set(), (path, node.lineno))

    def test_library_names_are_only_called(self):
        for path, tree in trees():
            taken = {
                alias.name for node in tree.body if isinstance(node, ast.ImportFrom) and node.module in LIBRARY
                for alias in node.names
            }
            called = [node.func for node in ast.walk(tree) if isinstance(node, ast.Call)]
            for node in ast.walk(tree):
                if isinstance(node, ast.Name) and node.id in taken:
                    self.assertIn(node, called, (path, node.lineno))

    def test_words_that_are_not_used(self):
        for path, tree in trees():
            for node in ast.walk(tree):
                if isinstance(node, ast.Name):
                    self.assertNotIn(node.id, WORDS, (path, node.lineno))

    def test_no_local_name_is_one_of_an_import_or_class(self):
        for path, tree in trees():
            taken = {alias.name for node in tree.body if isinstance(node, ast.ImportFrom) for alias in node.names}
            taken |= {node.name for node in tree.body if isinstance(node, ast.ClassDef)}
            for node in ast.walk(tree):
                if isinstance(node, ast.Name) and isinstance(node.ctx, ast.Store):
                    self.assertNotIn(node.id, taken, (path, node.lineno))
                if isinstance(node, ast.arg):
                    self.assertNotIn(node.arg, taken, (path, node.lineno))

    def test_no_two_files_import_one_another(self):
        imports = {}
        for path, tree in trees():
            name = re.sub(r"\.py$", "", os.path.basename(path))
            imports[name] = [
                node.module.split(".")[-1] for node in tree.body
                if isinstance(node, ast.ImportFrom) and node.module not in LIBRARY
            ]
        for name in imports:
            reached = list(imports[name])
            for other in reached:
                reached += [more for more in imports[other] if more not in reached]
            self.assertNotIn(name, reached)


if __name__ == "__main__":
    unittest.main()
