"""Point 1: nothing here uses a clock, chance or files."""

import ast
import os
import unittest

import mustpass

FOLDER = os.path.dirname(os.path.abspath(mustpass.__file__))
NOT_USED = {"open", "input", "print", "exec", "eval", "compile", "globals", "getattr", "id", "hash", "__import__"}


def parsed_files():
    for name in sorted(os.listdir(FOLDER)):
        if name.endswith(".py"):
            with open(os.path.join(FOLDER, name), encoding="ascii") as file:
                yield name, ast.parse(file.read())


class TestPackage(unittest.TestCase):

    def test_only_the_package_itself_is_imported(self):
        for name, tree in parsed_files():
            for node in ast.walk(tree):
                self.assertNotIsInstance(node, ast.Import, name)
                if isinstance(node, ast.ImportFrom):
                    self.assertEqual(node.level, 0, name)
                    self.assertTrue(node.module.startswith("mustpass."), (name, node.module))

    def test_nothing_reaches_outside(self):
        for name, tree in parsed_files():
            used = {node.id for node in ast.walk(tree) if isinstance(node, ast.Name)}
            self.assertEqual(used & NOT_USED, set(), name)

    def test_the_files_of_the_interface_are_there(self):
        names = [name for name, tree in parsed_files()]
        for name in ("__init__.py", "errors.py", "nets.py", "ways.py"):
            self.assertIn(name, names)


if __name__ == "__main__":
    unittest.main()
