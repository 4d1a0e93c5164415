import ast
import pathlib
import unittest

PACKAGE = pathlib.Path(__file__).resolve().parent.parent / "swapbook"
REACHING_OUT = ("open", "input", "print", "eval", "exec", "compile", "__import__", "hash", "id")


class NothingFromOutside(unittest.TestCase):
    # Without an import from outside there is no clock, no chance and no file.
    def test_each_file_draws_from_the_package_alone(self):
        files = sorted(PACKAGE.rglob("*.py"))
        self.assertTrue(files)
        for file in files:
            for node in ast.walk(ast.parse(file.read_text(encoding="utf-8"))):
                with self.subTest(file=file.name, line=getattr(node, "lineno", 0)):
                    self.assertNotIsInstance(node, ast.Import)
                    if isinstance(node, ast.ImportFrom):
                        self.assertEqual(node.module.partition(".")[0], "swapbook")
                    if isinstance(node, ast.Name):
                        self.assertNotIn(node.id, REACHING_OUT)

    def test_no_number_is_other_than_whole(self):
        for file in sorted(PACKAGE.rglob("*.py")):
            for node in ast.walk(ast.parse(file.read_text(encoding="utf-8"))):
                with self.subTest(file=file.name, line=getattr(node, "lineno", 0)):
                    self.assertNotIsInstance(node, ast.Div)
                    if isinstance(node, ast.Constant):
                        self.assertNotIsInstance(node.value, (float, complex))


if __name__ == "__main__":
    unittest.main()
