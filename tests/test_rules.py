"""Some rules of the language that the package is written in: files, imports, names and sizes."""

import ast
import builtins
import unittest
from pathlib import Path

ROOT = Path(__file__).resolve().parent.parent
PACKAGE = ROOT / "logtrees"

BUILTINS = """
    len range enumerate zip min max sum abs sorted reversed int str bool bytes list tuple dict set isinstance ord repr
    any all divmod super property Exception ValueError TypeError KeyError IndexError LookupError ZeroDivisionError
""".split()

METHODS = """
    append clear copy count endswith extend find get index insert isalnum isalpha isdigit islower isspace isupper items
    join keys ljust lower lstrip partition pop remove replace reverse rfind rjust rpartition rsplit rstrip setdefault
    split splitlines startswith strip update upper values zfill bit_length isascii __init__
""".split()


def files():
    return sorted(path for path in PACKAGE.rglob("*") if path.is_file() and "__pycache__" not in path.parts)


def trees():
    return [(path.name, ast.parse(path.read_text(encoding="ascii"))) for path in files()]


class RulesTest(unittest.TestCase):
    def test_the_folder_contains_only_modules(self):
        self.assertIn(PACKAGE / "__init__.py", files())
        self.assertEqual([path.name for path in files() if path.suffix != ".py"], [])

    def test_sizes_and_characters(self):
        for path in files():
            lines = path.read_text(encoding="ascii").split("\n")
            self.assertLessEqual(len(lines), 399, path.name)
            self.assertEqual([line for line in lines if len(line) > 120], [], path.name)
            self.assertTrue(all(" " <= sign <= "~" for line in lines for sign in line), path.name)

    def test_functions_are_short(self):
        for name, tree in trees():
            for node in ast.walk(tree):
                if isinstance(node, ast.FunctionDef):
                    self.assertLessEqual(node.end_lineno - node.lineno + 1, 40, (name, node.name))

    def test_imports_name_the_file_that_defines(self):
        for name, tree in trees():
            self.assertFalse([node for node in ast.walk(tree) if isinstance(node, ast.Import)], name)
            for node in ast.walk(tree):
                if isinstance(node, ast.ImportFrom):
                    self.assertEqual((node.level, node.module.partition(".")[0]), (0, "logtrees"), name)
                    source = ast.parse((ROOT / (node.module.replace(".", "/") + ".py")).read_text())
                    there = [part.name for part in source.body if isinstance(part, (ast.FunctionDef, ast.ClassDef))]
                    there += [part.targets[0].id for part in source.body if isinstance(part, ast.Assign)]
                    for alias in node.names:
                        self.assertIn(alias.name, there, name)

    def test_builtins_and_methods(self):
        classes = [part for _, tree in trees() for part in tree.body if isinstance(part, ast.ClassDef)]
        own = [part.name for kind in classes for part in kind.body if isinstance(part, ast.FunctionDef)]
        for name, tree in trees():
            for node in ast.walk(tree):
                if isinstance(node, ast.Name) and hasattr(builtins, node.id):
                    self.assertIn(node.id, BUILTINS, (name, node.lineno))
                    self.assertIsInstance(node.ctx, ast.Load, (name, node.lineno))
                if isinstance(node, ast.Call) and isinstance(node.func, ast.Attribute):
                    self.assertIn(node.func.attr, METHODS + own, (name, node.lineno))

    def test_no_floats_and_no_division(self):
        for name, tree in trees():
            for node in ast.walk(tree):
                self.assertNotIsInstance(node, (ast.Div, ast.Global, ast.AsyncFunctionDef), name)
                self.assertFalse(isinstance(node, ast.Constant) and isinstance(node.value, float), name)
                self.assertFalse(isinstance(node, ast.Constant) and "%" in str(node.value), name)

    def test_decorators_and_caught_errors(self):
        for name, tree in trees():
            for node in ast.walk(tree):
                self.assertNotIsInstance(node, ast.Try, name)
                for decorator in getattr(node, "decorator_list", []):
                    self.assertEqual(getattr(decorator, "id", None), "property", (name, node.name))

    def test_no_two_files_import_from_each_other(self):
        reached = {}
        for name, tree in trees():
            sources = [node.module for node in ast.walk(tree) if isinstance(node, ast.ImportFrom)]
            reached[name] = {source.rpartition(".")[2] + ".py" for source in sources}
        for _ in reached:
            reached = {name: there.union(*[reached[other] for other in there]) for name, there in reached.items()}
        self.assertEqual([name for name, there in reached.items() if name in there], [])

    def test_equal_objects_are_asked_for_their_class_first(self):
        for name, tree in trees():
            for node in ast.walk(tree):
                if isinstance(node, ast.FunctionDef) and node.name == "__eq__":
                    self.assertTrue(ast.unparse(node.body[0]).startswith("if not isinstance(other, "), name)

    def test_no_local_name_hides_an_import_or_a_function(self):
        for name, tree in trees():
            known = [node.name for node in tree.body if isinstance(node, (ast.FunctionDef, ast.ClassDef))]
            known += [alias.name for node in tree.body if isinstance(node, ast.ImportFrom) for alias in node.names]
            self.assertEqual(len(known), len({*known}), name)
            names = [node for node in ast.walk(tree) if isinstance(node, ast.Name)]
            stored = [node.id for node in names if isinstance(node.ctx, ast.Store)]
            stored += [node.arg for node in ast.walk(tree) if isinstance(node, ast.arg)]
            self.assertEqual([word for word in stored if word in known], [], name)


if __name__ == "__main__":
    unittest.main()
