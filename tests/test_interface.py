"""The interface: what exists under which name, where it is defined, what it takes."""

import ast
import inspect
import pathlib
import unittest

from plaindoors import compare, doors, errors, foldings, shelves, texts

PACKAGE = pathlib.Path(foldings.__file__).parent
FUNCTIONS = {
    compare: {
        "parting": ["first", "second", "third", "fourth"],
        "unlike": ["folding", "other"],
        "unsettled": ["folding"],
        "exchanged": ["folding", "other"],
        "coarser": ["folding", "other"],
        "needless": ["folding"],
    },
    doors: {
        "answers": ["doors", "deeds"],
        "wished": ["doors", "deeds"],
        "first_break": ["doors"],
        "are_right": ["doors"],
        "fewest_folded": ["doors"],
    },
    texts: {
        "folding_text": ["folding"],
        "read_folding": ["text"],
        "doors_text": ["doors"],
        "read_doors": ["text"],
    },
}
CLASSES = {
    foldings: {
        "Folding": {
            "__init__": ["steps"], "__call__": ["text"], "steps": [], "without": ["index"], "__len__": [],
            "__getitem__": None, "__eq__": None, "__add__": None, "__contains__": None,
        },
    },
    doors: {
        "Doors": {
            "__init__": ["put", "find", "strike", "wish"], "put": [], "find": [], "strike": [], "wish": [],
            "folded": ["names"], "__eq__": None,
        },
    },
    shelves: {
        "Shelf": {
            "__init__": ["doors"], "put": ["text"], "find": ["text"], "strike": ["text"], "put_all": ["texts"],
            "trial": ["texts"], "change": ["doors"], "undo": [], "forms": [], "first_text": ["form"], "__len__": [],
            "__contains__": None,
        },
    },
}
ERRORS = {
    "NoStep": ["index"],
    "NoDeed": ["index"],
    "NoForm": ["form"],
    "NoPart": ["part"],
    "NoLine": ["line"],
}


def defined(module):
    """The names of the functions and classes that stand in the file of a module."""
    tree = ast.parse(pathlib.Path(module.__file__).read_text())
    return [node.name for node in tree.body if isinstance(node, (ast.FunctionDef, ast.ClassDef))]


class InterfaceTest(unittest.TestCase):
    def test_functions(self):
        for module, functions in FUNCTIONS.items():
            for name, parameters in functions.items():
                self.assertIn(name, defined(module))
                self.assertEqual(list(inspect.signature(getattr(module, name)).parameters), parameters)

    def test_classes(self):
        for module, classes in CLASSES.items():
            for name, methods in classes.items():
                self.assertIn(name, defined(module))
                for method, parameters in methods.items():
                    self.assertIn(method, vars(getattr(module, name)))
                    if parameters is not None:
                        told = inspect.signature(vars(getattr(module, name))[method]).parameters
                        self.assertEqual(list(told), ["self"] + parameters)

    def test_defaults(self):
        self.assertEqual(inspect.signature(foldings.Folding).parameters["steps"].default, ())

    def test_property(self):
        self.assertIsInstance(vars(shelves.Shelf)["doors"], property)
        self.assertIsNotNone(shelves.Shelf.doors.fset)

    def test_errors(self):
        for name, fields in ERRORS.items():
            self.assertIn(name, defined(errors))
            self.assertEqual(list(inspect.signature(getattr(errors, name)).parameters), fields)
        for name in ("PlainError", "NoText", "NoDoor", "NothingToUndo"):
            self.assertIn(name, defined(errors))


class FilesTest(unittest.TestCase):
    """What is easily measured of how the files of the package have to look."""

    def test_files(self):
        for path in PACKAGE.iterdir():
            if path.name == "__pycache__":
                continue
            self.assertEqual(path.suffix, ".py")
            text = path.read_text(encoding="utf-8")
            lines = text.split("\n")
            self.assertLessEqual(len(lines), 399, path)
            self.assertLessEqual(max(map(len, lines)), 120, path)
            self.assertTrue(all(sign == "\n" or " " <= sign <= "~" for sign in text), path)
            for node in ast.walk(ast.parse(text)):
                if isinstance(node, ast.FunctionDef):
                    self.assertLessEqual(node.end_lineno - node.lineno + 1, 40, (path, node.name))

    def test_imports(self):
        for path in PACKAGE.glob("*.py"):
            for node in ast.walk(ast.parse(path.read_text())):
                self.assertNotIsInstance(node, ast.Import)
                if isinstance(node, ast.ImportFrom):
                    source = PACKAGE.parent / (node.module.replace(".", "/") + ".py")
                    self.assertTrue(source.is_file(), (path, node.module))
                    names = ast.parse(source.read_text()).body
                    there = [item.name for item in names if isinstance(item, (ast.FunctionDef, ast.ClassDef))]
                    there += [item.targets[0].id for item in names if isinstance(item, ast.Assign)]
                    for alias in node.names:
                        self.assertIn(alias.name, there, path)


if __name__ == "__main__":
    unittest.main()
