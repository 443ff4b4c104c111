import ast
import unittest
from pathlib import Path

PACKAGE = Path(__file__).resolve().parent.parent / "onlyasked"
FILES = sorted(PACKAGE.glob("*.py"))


class LayoutTest(unittest.TestCase):
    """What ../shared/LANGUAGE.md says of all files and can be seen at a glance."""

    def test_the_package_has_nothing_but_python_files(self):
        others = [path.name for path in PACKAGE.iterdir() if path.suffix != ".py" and path.name != "__pycache__"]
        self.assertEqual(others, [])
        self.assertIn(PACKAGE / "__init__.py", FILES)

    def test_lines_and_characters(self):
        for path in FILES:
            with self.subTest(path.name):
                text = path.read_text(encoding="utf-8")
                self.assertTrue(all(" " <= sign <= "~" or sign == "\n" for sign in text))
                self.assertLessEqual(len(text.splitlines()), 399)
                self.assertLessEqual(max(len(line) for line in text.splitlines()), 120)

    def test_functions_are_short(self):
        for path in FILES:
            for node in ast.walk(ast.parse(path.read_text(encoding="utf-8"))):
                if isinstance(node, ast.FunctionDef):
                    with self.subTest(f"{path.name} {node.name}"):
                        self.assertLessEqual(node.end_lineno - node.lineno + 1, 40)

    def test_imports_are_names_of_the_package(self):
        for path in FILES:
            for node in ast.walk(ast.parse(path.read_text(encoding="utf-8"))):
                self.assertNotIsInstance(node, ast.Import)
                if isinstance(node, ast.ImportFrom):
                    with self.subTest(f"{path.name} {node.module}"):
                        self.assertTrue(node.module.startswith("onlyasked."))
                        defined = ast.parse((PACKAGE / f"{node.module.split('.')[1]}.py").read_text(encoding="utf-8"))
                        own = [part.name for part in defined.body if isinstance(part, (ast.FunctionDef, ast.ClassDef))]
                        own += [part.targets[0].id for part in defined.body if isinstance(part, ast.Assign)]
                        for name in node.names:
                            self.assertIn(name.name, own)


if __name__ == "__main__":
    unittest.main()
