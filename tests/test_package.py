"""Point 1: nothing here uses a clock, chance or files; and the names and arguments of the interface."""

import ast
import importlib
import inspect
import os
import unittest

import mustpass

FOLDER = os.path.dirname(os.path.abspath(mustpass.__file__))
NOT_USED = {"open", "input", "print", "exec", "eval", "compile", "globals", "getattr", "id", "hash", "__import__"}
FUNCTIONS = {
    "ways": {"reached": ["net"], "way_to": ["net", "room"], "way_past": ["net", "room", "other"]},
    "guards": {"guards": ["net", "room", "other"], "guards_of": ["net", "room"], "nearest": ["net", "room"],
               "bars_of": ["net", "room"], "common": ["net", "some"]},
    "loops": {"back_doors": ["net"], "loops": ["net"], "wild_ring": ["net"]},
    "marks": {"edge": ["net", "room"], "joins": ["net", "some"]},
}


def parsed_files():
    for name in sorted(os.listdir(FOLDER)):
        if name.endswith(".py"):
            with open(os.path.join(FOLDER, name), encoding="ascii") as file:
                yield name, ast.parse(file.read())


class TestPackage(unittest.TestCase):

    def test_only_the_package_itself_is_imported(self):
        for name, tree in parsed_files():
            for node in ast.walk(tree):
                self.assertNotIsInstance(node, ast.Import, name)
                if isinstance(node, ast.ImportFrom):
                    self.assertEqual(node.level, 0, name)
                    self.assertTrue(node.module.startswith("mustpass."), (name, node.module))

    def test_nothing_reaches_outside(self):
        for name, tree in parsed_files():
            used = {node.id for node in ast.walk(tree) if isinstance(node, ast.Name)}
            self.assertEqual(used & NOT_USED, set(), name)

    def test_the_files_of_the_interface_are_there(self):
        names = [name for name, tree in parsed_files()]
        for name in ("__init__.py", "errors.py", "nets.py", "ways.py", "guards.py", "loops.py", "marks.py"):
            self.assertIn(name, names)

    def test_the_functions_of_the_interface_and_their_arguments_are_there(self):
        for file, functions in FUNCTIONS.items():
            module = importlib.import_module(f"mustpass.{file}")
            for name, arguments in functions.items():
                call = getattr(module, name)
                self.assertEqual(list(inspect.signature(call).parameters), arguments, name)
                self.assertEqual(call.__module__, f"mustpass.{file}")


if __name__ == "__main__":
    unittest.main()
