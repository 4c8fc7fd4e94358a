import ast
import inspect
import pathlib
import unittest

from commonhour import words

FOLDER = pathlib.Path(words.__file__).parent
FILES = sorted(FOLDER.glob("*.py"))
PARAMETERS = {
    "joined": ["one", "other"],
    "hours": ["words", "meeting"],
    "hours_maybe": ["words", "meeting"],
}


class InterfaceTest(unittest.TestCase):
    def test_functions_are_defined_in_their_file(self):
        for name, parameters in PARAMETERS.items():
            asked = getattr(words, name)
            self.assertEqual(asked.__module__, "commonhour.words")
            self.assertEqual(list(inspect.signature(asked).parameters), parameters)


class FilesTest(unittest.TestCase):
    def test_the_folder_holds_python_files_only(self):
        rest = [path.name for path in FOLDER.iterdir() if path not in FILES]
        self.assertLessEqual(set(rest), {"__pycache__"})

    def test_sizes_and_signs(self):
        for path in FILES:
            text = path.read_bytes()
            self.assertLessEqual(set(text), {10, *range(32, 127)}, path)
            self.assertLess(text.count(b"\n"), 400, path)
            self.assertLessEqual(max(map(len, text.split(b"\n"))), 120, path)

    def test_functions_are_short_and_imports_are_own(self):
        for path in FILES:
            for node in ast.walk(ast.parse(path.read_text(encoding="ascii"))):
                self.assertNotIsInstance(node, ast.Import, path)
                if isinstance(node, ast.FunctionDef):
                    self.assertLessEqual(node.end_lineno - node.lineno + 1, 40, node.name)
                if isinstance(node, ast.ImportFrom):
                    self.assertTrue(node.module.startswith("commonhour."), node.module)
