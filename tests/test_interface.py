"""The names of the interface, where they are defined, and the sizes that the language's rules let a file have."""

import ast
import importlib
import inspect
import pathlib
import unittest

FOLDER = pathlib.Path(__file__).parent.parent / "freshpage"
# The parameters of each, those that are handed in by their names alone behind a "*", a default behind a "=".
FUNCTIONS = {
    "freshpage.words": {"is_word": "text", "written_sign": "text", "plain_signs": "text"},
    "freshpage.reader": {"read": "text", "stretches": "text"},
    "freshpage.writer": {"written": "tree", "is_whole": "tree"},
    "freshpage.trees": {"nodes_of": "tree", "parents_of": "tree", "put_worth": "tree node name value",
                        "drop_worth": "tree node name", "put": "tree node at text", "cut": "tree node",
                        "set_text": "tree node text"},
    "freshpage.looks": {"rules_of": "looks", "own_rules": "text"},
    "freshpage.selectors": {"matches": "selector tree node", "weight": "selector"},
    "freshpage.styles": {"styles": "tree looks", "style_lead": "tree looks node name"},
    "freshpage.lines": {"lines_of": "signs wide"},
    "freshpage.rooms": {"kinds_of": "tree looks", "rooms": "tree looks * width=40", "page_high": "tree looks * width=40"},
    "freshpage.units": {"units": "tree looks * width=40"},
    "freshpage.boards": {"board": "tree looks * width=40", "hit": "tree looks x y * width=40",
                         "painter": "tree looks x y * width=40"},
    "freshpage.scripts": {"rows_of": "code", "fits": "code"},
    "freshpage.events": {"fired": "tree looks kind node * sign='' width=40"},
    "freshpage.sessions": {"session": "text rows * looks='' width=40"},
}
METHODS = {
    "__init__": "self text * looks='' width=40", "text": "self", "looks": "self", "width": "self", "tree": "self",
    "style": "self node", "room": "self node", "stretch": "self node", "lead": "self node name", "board": "self",
    "hit": "self x y", "cell_lead": "self x y", "edit": "self at many text", "set_looks": "self looks",
    "resize": "self width", "put_worth": "self node name value", "drop_worth": "self node name",
    "put": "self node at text", "cut": "self node", "set_text": "self node text", "fire": "self kind node * sign=''",
    "mark": "self", "undo": "self mark", "news": "self", "work": "self",
}
VALUES = {
    "freshpage.trees": {"MOST_NODES": 120, "MOST_DEEP": 20},
    "freshpage.styles": {"PROPERTIES": ("align", "back", "border", "color", "display", "down", "hide", "layer", "margin",
                                        "pad", "right", "width")},
    "freshpage.rooms": {"WIDTH": 40},
}


def told_parameters(function):
    told = []
    for parameter in inspect.signature(function).parameters.values():
        if parameter.kind == parameter.KEYWORD_ONLY and "*" not in told:
            told.append("*")
        plain = "" if parameter.default is parameter.empty else f"={parameter.default!r}"
        told.append(parameter.name + plain)
    return " ".join(told)


class Interface(unittest.TestCase):
    def test_functions(self):
        for file, functions in FUNCTIONS.items():
            module = importlib.import_module(file)
            for name, parameters in functions.items():
                function = getattr(module, name)
                self.assertEqual(function.__module__, file)
                self.assertTrue(inspect.isfunction(function))
                self.assertEqual(told_parameters(function), parameters)

    def test_the_viewer(self):
        viewer = importlib.import_module("freshpage.viewer").Viewer
        self.assertEqual((viewer.__module__, viewer.__bases__), ("freshpage.viewer", (object,)))
        for name, parameters in METHODS.items():
            self.assertEqual(told_parameters(vars(viewer)[name]), parameters)

    def test_values(self):
        for file, values in VALUES.items():
            code = ast.parse((FOLDER.parent / f"{file.replace('.', '/')}.py").read_text(encoding="utf-8"))
            assigned = [node.targets[0].id for node in code.body if isinstance(node, ast.Assign)]
            for name, value in values.items():
                kept = getattr(importlib.import_module(file), name)
                self.assertEqual((type(kept), kept), (type(value), value))
                self.assertIn(name, assigned, file)

    def test_too_large(self):
        module = importlib.import_module("freshpage.errors")
        self.assertEqual(list(inspect.signature(module.TooLarge).parameters), ["most"])


class Rules(unittest.TestCase):
    def test_sizes_and_signs(self):
        for file in sorted(FOLDER.rglob("*.py")):
            code = file.read_text(encoding="utf-8")
            lines = code.split("\n")
            self.assertLess(len(lines), 400, file)
            self.assertLessEqual(max(map(len, lines)), 120, file)
            self.assertTrue(all(sign == "\n" or " " <= sign <= "~" for sign in code), file)
            for node in ast.walk(ast.parse(code)):
                if isinstance(node, ast.FunctionDef):
                    self.assertLessEqual(node.end_lineno - node.lineno + 1, 40, f"{file}: {node.name}")

    def test_imports_are_of_the_package(self):
        for file in sorted(FOLDER.rglob("*.py")):
            for node in ast.walk(ast.parse(file.read_text(encoding="utf-8"))):
                self.assertNotIsInstance(node, ast.Import, file)
                if isinstance(node, ast.ImportFrom):
                    self.assertEqual((node.level, node.module.split(".")[0]), (0, "freshpage"), file)


if __name__ == "__main__":
    unittest.main()
