"""The package against the rules L1, L2, L10 and L14 of LANGUAGE.md, as far as a small test can, and the interface."""

import ast
import importlib
import inspect
import pathlib
import unittest
import warnings

import stillmine

FOLDER = pathlib.Path(stillmine.__file__).parent
PATHS = sorted(FOLDER.rglob("*.py"))
LETTERS = "abcdefghijklmnopqrstuvwxyz0123456789_"
VALUE_ERRORS = ("BadRegisters", "BadLines", "BadContent", "BadAnswer", "BadStop", "BadTrouble", "OtherPlaces",
                "BadName", "BadBridge")
INTERFACE = {
    "errors": {
        **{name: "(value)" for name in VALUE_ERRORS},
        "BadLine": "(position)", "Unanswered": "(position)", "StillAmid": "(content)", "NoPlace": "(place)",
        "NoFile": "(name)", "Taken": "(name)", "TooFar": "(count)", "BadText": "(line)",
    },
    "rules": {"Rule": "(registers, lines)", "Rule.asks": "(self, position)"},
    "files": {
        "File": "(rule)", "File.edit": "(self, content)", "File.fork": "(self)",
        "File.upgrade": "(self, content, *, answer=None, stop=None)",
        "File.renamed": "(self, content, *, answer=None, stop=None)",
        "standing": "(rule, contents, *, last=None, mark='none', mine=None, amid=False)",
    },
    "patterns": {
        "pattern_of": "(file)", "is_pattern": "(rule, value)", "steps_from": "(rule, pattern, *, stops=False)",
    },
    "tables": {"table": "(rule, *, stops=False)", "is_closed": "(rule, value, *, stops=False)"},
    "troubles": {
        "shortest": "(rule, trouble, *, stops=False)", "ahead": "(file, trouble, *, stops=False)",
        "shows": "(rule, trouble, value, *, stops=False)",
    },
    "alike": {"parting": "(first, second)", "alike": "(first, second)"},
    "ways": {"hanging": "(rule, answer)"},
    "notes": {"without": "(rule, names)", "enough": "(rule)"},
    "stops": {
        "harmful": "(rule, trouble)", "closing": "(rule, trouble)", "shown": "(rule, trouble, points)",
    },
    "fewest": {"fewest": "(rule, trouble, *, stops=False)"},
    "houses": {
        "House": "(rule)", "House.file": "(self, name)", "House.lay": "(self, name, content)",
        "House.bring": "(self, edition, *, moved=None, answers=None, stop=None)", "House.undo": "(self, number)",
        "House.fork": "(self)", "House.__eq__": "(self, other)",
    },
    "texts": {"rule_text": "(rule)", "read_rule": "(text)"},
    "bridges": {
        "crossed": "(file, rule, bridge)", "crossing": "(first, second, bridge, trouble, *, stops=False)",
        "bridges": "(first, second, *, stops=False)",
    },
}


def functions(tree):
    """All functions and methods of a file."""
    return [node for node in ast.walk(tree) if isinstance(node, (ast.FunctionDef, ast.AsyncFunctionDef))]


def defined_names(module_name):
    """The names that a file itself gives to functions, classes and values."""
    tree = ast.parse(inspect.getsource(importlib.import_module(module_name)))
    targets = [node.targets[0].id for node in tree.body if isinstance(node, ast.Assign)]
    return targets + [node.name for node in tree.body if isinstance(node, (ast.FunctionDef, ast.ClassDef))]


class Form(unittest.TestCase):
    def each_file(self):
        """The path and the text of each file, in turn."""
        self.assertGreaterEqual(len(PATHS), 4)
        for path in PATHS:
            with self.subTest(path.name):
                yield path, path.read_bytes().decode("utf-8")

    def test_files_of_the_folder(self):
        for path in FOLDER.rglob("*"):
            if "__pycache__" not in path.parts:
                with self.subTest(path.name):
                    self.assertTrue(path.is_dir() or path.suffix == ".py")
                    self.assertEqual(path.stem.strip(LETTERS), "")
        self.assertTrue((FOLDER / "__init__.py").is_file())

    def test_characters(self):
        for _, text in self.each_file():
            self.assertEqual([char for char in text if not (" " <= char <= "~" or char == "\n")], [])

    def test_lengths_of_lines_and_files(self):
        for _, text in self.each_file():
            lines = text.split("\n")
            self.assertLessEqual(max(len(line) for line in lines), 120)
            self.assertLessEqual(len(lines), 399)

    def test_lengths_of_functions(self):
        for _, text in self.each_file():
            for function in functions(ast.parse(text)):
                self.assertLessEqual(function.end_lineno - function.lineno + 1, 40, function.name)

    def test_python_warns_of_nothing(self):
        for path, text in self.each_file():
            with warnings.catch_warnings():
                warnings.simplefilter("error")
                compile(text, str(path), "exec")

    def test_imports_name_the_file_that_defines(self):
        for path, text in self.each_file():
            for node in ast.walk(ast.parse(text)):
                self.assertNotIsInstance(node, ast.Import)
                if isinstance(node, ast.ImportFrom):
                    self.assertEqual(node.level, 0)
                    self.assertTrue(node.module.startswith("stillmine."))
                    for name in node.names:
                        self.assertIsNone(name.asname)
                        self.assertIn(name.name, defined_names(node.module))

    def test_only_properties_as_decorators(self):
        for _, text in self.each_file():
            for function in functions(ast.parse(text)):
                self.assertIn([ast.unparse(each) for each in function.decorator_list], ([], ["property"]))

    def test_names_and_arguments_of_the_interface(self):
        for module_name, entries in INTERFACE.items():
            module = importlib.import_module("stillmine." + module_name)
            for name, arguments in entries.items():
                with self.subTest(name):
                    first, *rest = name.split(".")
                    value = getattr(module, first)
                    self.assertEqual(value.__module__, module.__name__)
                    if rest:
                        value = vars(value)[rest[0]]
                    self.assertEqual(str(inspect.signature(value)), arguments)


if __name__ == "__main__":
    unittest.main()
