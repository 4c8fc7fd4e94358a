import ast
import inspect
import pathlib
import unittest

from commonhour import answers, books, tables, words

FOLDER = pathlib.Path(words.__file__).parent
FILES = sorted(FOLDER.glob("*.py"))
FUNCTIONS = {
    (words, "joined"): ["one", "other"],
    (words, "hours"): ["words", "meeting"],
    (words, "hours_maybe"): ["words", "meeting"],
    (tables, "first"): ["words", "meeting"],
    (tables, "table"): ["words", "meetings", "olds"],
}
CLASSES = {
    (answers, "At"): {"__init__": ["hour"], "shows": ["words", "meeting"]},
    (answers, "Barred"): {"__init__": ["rows"], "shows": ["words", "meeting"]},
    (answers, "Moved"): {"__init__": ["hours", "prices", "rents"], "shows": ["words", "meetings", "olds"]},
    (answers, "Tight"): {"__init__": ["meetings", "hours"], "shows": ["words", "meetings", "olds"]},
    (books, "Book"): {
        "__init__": ["hand"], "answer": ["person", "hour", "word"], "hear": ["words"],
        "all_words": [], "says": ["person", "hour"],
    },
}


class InterfaceTest(unittest.TestCase):
    def test_functions_are_defined_in_their_file(self):
        for (module, name), parameters in FUNCTIONS.items():
            asked = getattr(module, name)
            self.assertEqual(asked.__module__, module.__name__)
            self.assertEqual(list(inspect.signature(asked).parameters), parameters)

    def test_classes_are_defined_in_their_file_with_methods_of_their_own(self):
        self.assertEqual(answers.Answer.__module__, "commonhour.answers")
        for (module, name), methods in CLASSES.items():
            kind = getattr(module, name)
            self.assertEqual(kind.__module__, module.__name__)
            for method, parameters in methods.items():
                self.assertIn(method, vars(kind))
                self.assertEqual(list(inspect.signature(vars(kind)[method]).parameters), ["self", *parameters])


class FilesTest(unittest.TestCase):
    def test_the_folder_holds_python_files_only(self):
        rest = [path.name for path in FOLDER.iterdir() if path not in FILES]
        self.assertLessEqual(set(rest), {"__pycache__"})

    def test_sizes_and_signs(self):
        for path in FILES:
            text = path.read_bytes()
            self.assertLessEqual(set(text), {10, *range(32, 127)}, path)
            self.assertLess(text.count(b"\n"), 400, path)
            self.assertLessEqual(max(map(len, text.split(b"\n"))), 120, path)

    def test_functions_are_short_and_imports_are_own(self):
        for path in FILES:
            for node in ast.walk(ast.parse(path.read_text(encoding="ascii"))):
                self.assertNotIsInstance(node, ast.Import, path)
                if isinstance(node, ast.FunctionDef):
                    self.assertLessEqual(node.end_lineno - node.lineno + 1, 40, node.name)
                if isinstance(node, ast.ImportFrom):
                    self.assertTrue(node.module.startswith("commonhour."), node.module)
