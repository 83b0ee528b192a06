"""The form of the package's files, as far as a plain look at them can tell."""

import ast
import pathlib
import unittest
import warnings

PACKAGE = pathlib.Path(__file__).resolve().parent.parent / "backlinks"
FILES = sorted(PACKAGE.rglob("*.py"))
LIBRARY = ["heapq", "math", "itertools", "collections", "__future__"]


def trees():
    """Yields the name and the tree of each file of the package."""
    for path in FILES:
        yield path.name, ast.parse(path.read_text(encoding="ascii"), str(path))


class FilesTest(unittest.TestCase):
    def test_the_folder_contains_python_files_only(self):
        others = [path.name for path in PACKAGE.rglob("*") if path.is_file() and path.suffix not in (".py", ".pyc")]
        self.assertEqual(others, [])
        self.assertIn("__init__.py", [path.name for path in FILES])

    def test_characters_and_sizes(self):
        for path in FILES:
            text = path.read_text(encoding="ascii")
            self.assertEqual([sign for sign in text if sign != "\n" and not " " <= sign <= "~"], [], path.name)
            self.assertLessEqual(len(text.splitlines()), 399, path.name)
            self.assertEqual([line for line in text.splitlines() if len(line) > 120], [], path.name)

    def test_functions_have_at_most_40_lines(self):
        for name, tree in trees():
            for node in ast.walk(tree):
                if isinstance(node, ast.FunctionDef):
                    self.assertLessEqual(node.end_lineno - node.lineno + 1, 40, f"{name}: {node.name}")

    def test_imports_name_the_defining_file(self):
        defined = {}
        for name, tree in trees():
            rows = [node for node in tree.body if isinstance(node, (ast.FunctionDef, ast.ClassDef, ast.Assign))]
            defined["backlinks." + name[:-3]] = [
                row.targets[0].id if isinstance(row, ast.Assign) else row.name for row in rows]
        for name, tree in trees():
            for node in ast.walk(tree):
                self.assertFalse(isinstance(node, ast.Import) and name != "__main__.py", name)
                if isinstance(node, ast.ImportFrom) and node.module not in LIBRARY:
                    for alias in node.names:
                        self.assertIn(alias.name, defined[node.module], name)

    def test_no_warnings_floats_or_percent_signs(self):
        for path in FILES:
            with warnings.catch_warnings():
                warnings.simplefilter("error")
                compile(path.read_text(encoding="ascii"), str(path), "exec")
        for name, tree in trees():
            for node in ast.walk(tree):
                self.assertFalse(isinstance(node, ast.Div), name)
                if isinstance(node, ast.Constant):
                    self.assertNotIsInstance(node.value, float, name)
                    self.assertFalse(isinstance(node.value, str) and "%" in node.value, name)


if __name__ == "__main__":
    unittest.main()
