"""The interface: what exists under which name, where it is defined, what it takes."""

import ast
import inspect
import pathlib
import unittest

from plaindoors import compare, errors, foldings

PACKAGE = pathlib.Path(foldings.__file__).parent
FUNCTIONS = {
    "parting": ["first", "second", "third", "fourth"],
    "unlike": ["folding", "other"],
    "unsettled": ["folding"],
    "exchanged": ["folding", "other"],
    "coarser": ["folding", "other"],
    "needless": ["folding"],
}
ERRORS = {
    "NoStep": ["index"],
    "NoDeed": ["index"],
    "NoForm": ["form"],
    "NoPart": ["part"],
    "NoLine": ["line"],
}


def defined(module):
    """The names of the functions and classes that stand in the file of a module."""
    tree = ast.parse(pathlib.Path(module.__file__).read_text())
    return [node.name for node in tree.body if isinstance(node, (ast.FunctionDef, ast.ClassDef))]


class InterfaceTest(unittest.TestCase):
    def test_compare(self):
        for name, parameters in FUNCTIONS.items():
            self.assertIn(name, defined(compare))
            self.assertEqual(list(inspect.signature(getattr(compare, name)).parameters), parameters)

    def test_errors(self):
        for name, fields in ERRORS.items():
            self.assertIn(name, defined(errors))
            self.assertEqual(list(inspect.signature(getattr(errors, name)).parameters), fields)
        for name in ("PlainError", "NoText", "NoDoor", "NothingToUndo"):
            self.assertIn(name, defined(errors))

    def test_folding(self):
        self.assertIn("Folding", defined(foldings))
        steps = inspect.signature(foldings.Folding).parameters["steps"]
        self.assertEqual(steps.default, ())
        for name in ("__call__", "__getitem__", "__len__", "__eq__", "__add__", "__contains__", "steps", "without"):
            self.assertIn(name, vars(foldings.Folding))
        self.assertEqual(list(inspect.signature(foldings.Folding.__call__).parameters), ["self", "text"])
        self.assertEqual(list(inspect.signature(foldings.Folding.without).parameters), ["self", "index"])


class FilesTest(unittest.TestCase):
    """What is easily measured of how the files of the package have to look."""

    def test_files(self):
        for path in PACKAGE.iterdir():
            if path.name == "__pycache__":
                continue
            self.assertEqual(path.suffix, ".py")
            text = path.read_text(encoding="utf-8")
            lines = text.split("\n")
            self.assertLessEqual(len(lines), 399, path)
            self.assertLessEqual(max(map(len, lines)), 120, path)
            self.assertTrue(all(sign == "\n" or " " <= sign <= "~" for sign in text), path)
            for node in ast.walk(ast.parse(text)):
                if isinstance(node, ast.FunctionDef):
                    self.assertLessEqual(node.end_lineno - node.lineno + 1, 40, (path, node.name))

    def test_imports(self):
        for path in PACKAGE.glob("*.py"):
            for node in ast.walk(ast.parse(path.read_text())):
                self.assertNotIsInstance(node, ast.Import)
                if isinstance(node, ast.ImportFrom):
                    source = PACKAGE.parent / (node.module.replace(".", "/") + ".py")
                    self.assertTrue(source.is_file(), (path, node.module))
                    names = ast.parse(source.read_text()).body
                    there = [item.name for item in names if isinstance(item, (ast.FunctionDef, ast.ClassDef))]
                    there += [item.targets[0].id for item in names if isinstance(item, ast.Assign)]
                    for alias in node.names:
                        self.assertIn(alias.name, there, path)


if __name__ == "__main__":
    unittest.main()
