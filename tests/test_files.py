"""The rules of ../shared/LANGUAGE.md that a look at the files can hold: L1, L2, L3, L8, L10, L14."""

import ast
import pathlib
import unittest

PACKAGE = pathlib.Path(__file__).resolve().parent.parent / "apartguards"
FILES = sorted(path for path in PACKAGE.rglob("*") if path.is_file() and path.suffix != ".pyc")
MODULES = ("apartguards", "heapq", "math", "itertools", "collections")
BARRED = (ast.AsyncFunctionDef, ast.Await, ast.Div)


class Files(unittest.TestCase):
    def trees(self):
        return [(path.name, ast.parse(path.read_text(encoding="utf-8"))) for path in FILES]

    def test_the_folder_contains_nothing_but_files_of_python(self):
        self.assertIn("__init__.py", [path.name for path in FILES])
        self.assertEqual([path for path in FILES if path.suffix != ".py"], [])
        self.assertEqual([path for path in FILES if path.name.startswith("test")], [])

    def test_sizes_and_signs(self):
        for path in FILES:
            text = path.read_bytes()
            self.assertTrue(all(sign == 10 or 32 <= sign <= 126 for sign in text), path.name)
            lines = text.decode("ascii").splitlines()
            self.assertLessEqual(len(lines), 399, path.name)
            self.assertLessEqual(max(map(len, lines)), 120, path.name)

    def test_functions_have_at_most_40_lines(self):
        for name, tree in self.trees():
            for node in ast.walk(tree):
                if isinstance(node, ast.FunctionDef):
                    self.assertLessEqual(node.end_lineno - node.lineno + 1, 40, (name, node.name))

    def test_imports_are_only_of_the_package_and_what_the_rules_name(self):
        for name, tree in self.trees():
            for node in ast.walk(tree):
                self.assertNotIsInstance(node, ast.Import, name)
                if isinstance(node, ast.ImportFrom):
                    self.assertEqual(node.level, 0, name)
                    self.assertIn(node.module.split(".")[0], MODULES, name)

    def test_nothing_is_run_at_module_level(self):
        allowed = (ast.FunctionDef, ast.ClassDef, ast.ImportFrom, ast.Assign)
        for name, tree in self.trees():
            self.assertIsNotNone(ast.get_docstring(tree), name)
            for node in tree.body[1:]:
                self.assertIsInstance(node, allowed, name)

    def test_what_the_package_does_without(self):
        for name, tree in self.trees():
            for node in ast.walk(tree):
                self.assertNotIsInstance(node, BARRED, name)
                if isinstance(node, ast.Constant):
                    self.assertNotIsInstance(node.value, (float, complex), name)


if __name__ == "__main__":
    unittest.main()
