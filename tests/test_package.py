"""What holds for each file of the package: no clock, chance or files."""

import ast
import pathlib
import unittest

PACKAGE = pathlib.Path(__file__).resolve().parent.parent / "fewbrackets"
REACHING_OUT = {"open", "input", "print", "exec", "eval", "compile", "getattr", "globals", "locals", "vars",
                "breakpoint", "hash", "id"}


def files():
    return sorted(PACKAGE.glob("**/*.py"))


class PackageFiles(unittest.TestCase):
    def test_the_files_of_the_interface_are_there(self):
        names = [path.name for path in files()]
        for name in ("__init__.py", "errors.py", "tables.py", "writing.py", "reading.py"):
            self.assertIn(name, names)

    def test_only_the_package_itself_is_imported(self):
        for path in files():
            for node in ast.walk(ast.parse(path.read_text(encoding="utf-8"))):
                with self.subTest(file=path.name):
                    self.assertNotIsInstance(node, ast.Import)
                    if isinstance(node, ast.ImportFrom):
                        self.assertEqual(node.level, 0)
                        self.assertEqual(node.module.split(".")[0], "fewbrackets")

    def test_no_name_reaches_out_of_the_program(self):
        for path in files():
            for node in ast.walk(ast.parse(path.read_text(encoding="utf-8"))):
                if isinstance(node, ast.Name):
                    with self.subTest(file=path.name, name=node.id):
                        self.assertNotIn(node.id, REACHING_OUT)
                        self.assertFalse(node.id.startswith("__"))

    def test_plain_signs_and_short_rows(self):
        for path in files():
            text = path.read_text(encoding="utf-8")
            with self.subTest(file=path.name):
                self.assertTrue(all(sign == "\n" or " " <= sign <= "~" for sign in text))
                self.assertLessEqual(max(len(row) for row in text.split("\n")), 120)
                self.assertLessEqual(len(text.split("\n")), 400)


if __name__ == "__main__":
    unittest.main()
