"""The names of the interface, where they are defined, and the sizes that the language's rules let a file have."""

import ast
import importlib
import inspect
import pathlib
import unittest

FOLDER = pathlib.Path(__file__).parent.parent / "freshpage"
FUNCTIONS = {
    "freshpage.words": {"is_word": ["text"], "written_sign": ["text"], "plain_signs": ["text"]},
    "freshpage.reader": {"read": ["text"], "stretches": ["text"]},
    "freshpage.writer": {"written": ["tree"], "is_whole": ["tree"]},
    "freshpage.trees": {"nodes_of": ["tree"], "parents_of": ["tree"], "put_worth": ["tree", "node", "name", "value"],
                        "drop_worth": ["tree", "node", "name"], "put": ["tree", "node", "at", "text"],
                        "cut": ["tree", "node"], "set_text": ["tree", "node", "text"]},
    "freshpage.looks": {"rules_of": ["looks"], "own_rules": ["text"]},
    "freshpage.selectors": {"matches": ["selector", "tree", "node"], "weight": ["selector"]},
    "freshpage.styles": {"styles": ["tree", "looks"], "style_lead": ["tree", "looks", "node", "name"]},
}
VALUES = {
    "freshpage.trees": {"MOST_NODES": 120, "MOST_DEEP": 20},
    "freshpage.styles": {"PROPERTIES": ("align", "back", "border", "color", "display", "down", "hide", "layer", "margin",
                                        "pad", "right", "width")},
}


class Interface(unittest.TestCase):
    def test_functions(self):
        for file, functions in FUNCTIONS.items():
            module = importlib.import_module(file)
            for name, parameters in functions.items():
                function = getattr(module, name)
                self.assertEqual(function.__module__, file)
                self.assertTrue(inspect.isfunction(function))
                self.assertEqual(list(inspect.signature(function).parameters), parameters)

    def test_values(self):
        for file, values in VALUES.items():
            code = ast.parse((FOLDER.parent / f"{file.replace('.', '/')}.py").read_text(encoding="utf-8"))
            assigned = [node.targets[0].id for node in code.body if isinstance(node, ast.Assign)]
            for name, value in values.items():
                kept = getattr(importlib.import_module(file), name)
                self.assertEqual((type(kept), kept), (type(value), value))
                self.assertIn(name, assigned, file)

    def test_too_large(self):
        module = importlib.import_module("freshpage.errors")
        self.assertEqual(list(inspect.signature(module.TooLarge).parameters), ["most"])


class Rules(unittest.TestCase):
    def test_sizes_and_signs(self):
        for file in sorted(FOLDER.rglob("*.py")):
            code = file.read_text(encoding="utf-8")
            lines = code.split("\n")
            self.assertLess(len(lines), 400, file)
            self.assertLessEqual(max(map(len, lines)), 120, file)
            self.assertTrue(all(sign == "\n" or " " <= sign <= "~" for sign in code), file)
            for node in ast.walk(ast.parse(code)):
                if isinstance(node, ast.FunctionDef):
                    self.assertLessEqual(node.end_lineno - node.lineno + 1, 40, f"{file}: {node.name}")

    def test_imports_are_of_the_package(self):
        for file in sorted(FOLDER.rglob("*.py")):
            for node in ast.walk(ast.parse(file.read_text(encoding="utf-8"))):
                self.assertNotIsInstance(node, ast.Import, file)
                if isinstance(node, ast.ImportFrom):
                    self.assertEqual((node.level, node.module.split(".")[0]), (0, "freshpage"), file)


if __name__ == "__main__":
    unittest.main()
