"""The language of the program: those rules of ../shared/LANGUAGE.md that can be read off a syntax tree at once."""

import ast
import builtins
import pathlib
import unittest

PACKAGE = pathlib.Path(__file__).resolve().parent.parent / "goneunseen"
FILES = {path.relative_to(PACKAGE.parent).as_posix(): path.read_text() for path in sorted(PACKAGE.rglob("*.py"))}
TREES = {name: ast.parse(text) for name, text in FILES.items()}
BUILTINS = set(
    "len range enumerate zip min max sum abs sorted reversed int str bool bytes list tuple dict set isinstance ord repr any "
    "all divmod iter next super property classmethod staticmethod ValueError LookupError OverflowError TypeError".split())
METHODS = set(
    "append clear copy count endswith extend find get index insert isalnum isalpha isdigit islower isspace isupper items join "
    "keys ljust lower lstrip partition pop remove replace reverse rfind rjust rpartition rsplit rstrip setdefault split "
    "splitlines startswith strip update upper values zfill bit_length isascii isdecimal removeprefix removesuffix".split())


def nodes(*kinds):
    """All nodes of these kinds, with the names of their files."""
    return [(name, node) for name, tree in TREES.items() for node in ast.walk(tree) if isinstance(node, kinds)]


def properties_and_methods():
    found = {}
    for _, node in nodes(ast.ClassDef):
        for part in node.body:
            if isinstance(part, ast.FunctionDef):
                words = [ast.unparse(word) for word in part.decorator_list]
                found.setdefault("property" if "property" in words else "method", set()).add(part.name)
    return found["property"], found["method"]


class Language(unittest.TestCase):
    def check(self, found):
        self.assertEqual([f"{name} row {node.lineno}: {ast.unparse(node)}" for name, node in found], [])

    def test_sizes_and_characters(self):
        for name, text in FILES.items():
            rows = text.split("\n")
            self.assertLessEqual(len(rows) - 1, 399, name)
            for index, row in enumerate(rows, 1):
                self.assertLessEqual(len(row), 120, f"{name} row {index}")
                self.assertTrue(all(" " <= letter <= "~" for letter in row), f"{name} row {index}")
        for name, node in nodes(ast.FunctionDef):
            self.assertLess(node.end_lineno - node.lineno, 40, f"{name} {node.name}")

    def test_no_property_is_passed_as_key(self):
        self.check([
            (name, node) for name, node in nodes(ast.Call) for word in node.keywords
            if word.arg == "key" and not isinstance(word.value, (ast.Name, ast.Lambda, ast.Constant))])

    def test_no_method_is_passed_on(self):
        properties, methods = properties_and_methods()
        self.assertEqual(properties & methods, set())
        called = {id(node.func) for _, node in nodes(ast.Call)}
        self.check([
            (name, node) for name, node in nodes(ast.Attribute)
            if isinstance(node.ctx, ast.Load) and node.attr in methods and id(node) not in called])

    def test_only_the_builtins_and_methods_that_are_allowed(self):
        _, methods = properties_and_methods()
        self.check([
            (name, node) for name, node in nodes(ast.Name) if hasattr(builtins, node.id) and node.id not in BUILTINS])
        self.check([
            (name, node) for name, node in nodes(ast.Call)
            if isinstance(node.func, ast.Attribute) and node.func.attr not in METHODS | methods])
        self.check([(name, node) for name, node in nodes(ast.Name) if isinstance(node.ctx, ast.Store) and hasattr(builtins, node.id)])
        self.check([(name, node) for name, node in nodes(ast.arg) if hasattr(builtins, node.arg)])

    def test_no_generator_expressions_and_no_floats(self):
        self.check(nodes(ast.GeneratorExp, ast.Div, ast.Global))
        self.check([(name, node) for name, node in nodes(ast.Constant) if isinstance(node.value, float)])
        self.check([(name, node) for name, node in nodes(ast.Constant) if isinstance(node.value, str) and "%" in node.value])

    def test_imports_name_the_file_that_defines_the_name(self):
        self.check(nodes(ast.Import))
        for name, node in nodes(ast.ImportFrom):
            path = node.module.replace(".", "/") + ".py"
            self.assertIn(path, TREES, f"{name} row {node.lineno}")
            defined = [part.name for part in TREES[path].body if isinstance(part, (ast.FunctionDef, ast.ClassDef))]
            for alias in node.names:
                self.assertIn(alias.name, defined, f"{name} row {node.lineno}")

    def test_no_two_files_import_from_each_other(self):
        imports = {name: set() for name in TREES}
        for name, node in nodes(ast.ImportFrom):
            imports[name].add(node.module.replace(".", "/") + ".py")
        while imports:
            ends = [name for name in imports if not imports[name] & set(imports)]
            self.assertNotEqual(ends, [], sorted(imports))
            for name in ends:
                del imports[name]

    def test_errors_are_raised_by_the_name_of_their_class(self):
        self.check([
            (name, node) for name, node in nodes(ast.Raise)
            if node.exc is not None and not (isinstance(node.exc, ast.Call) and isinstance(node.exc.func, ast.Name))])
        self.check([
            (name, node) for name, node in nodes(ast.ExceptHandler)
            if node.type is None or any(hasattr(builtins, word.id) for word in ast.walk(node.type) if isinstance(word, ast.Name))])


if __name__ == "__main__":
    unittest.main()
