"""The interface: each name in its module, defined there, with its arguments."""

import importlib
import inspect
import unittest

FUNCTIONS = {
    "files": {"is_name": ["value"], "tokens": ["text"]},
    "places": {"places": ["project"], "hidden_places": ["project"], "rows_places": ["project"],
               "levels": ["project", "place"], "definition": ["project", "spot"]},
    "values": {"value_of": ["project", "place"], "shown": ["project", "rows_place"],
               "output": ["project", "file"], "labelled": ["project", "file"]},
    "edits": {"wish_of": ["project", "edit"], "wished": ["project", "edit", "file"]},
    "merging": {"changes": ["project", "edit"], "clashes": ["project", "one", "other"], "merged": ["project", "one", "other"]},
    "traces": {"things": ["project"], "worth": ["project", "thing"], "trace": ["project", "thing"],
               "sources": ["project", "thing"], "readers": ["project", "value"]},
    "plans": {"is_plan": ["project", "value", "locked"], "made": ["project", "plan"], "cost_of": ["project", "plan", "costs"]},
    "rows": {"going": ["project", "edit", "locked"], "coming": ["project", "edit"], "moves": ["old", "new"],
             "chains": ["project", "edit", "locked"], "shows_chains": ["project", "edit", "value", "locked"]},
    "search": {"selections": ["project", "edit", "locked", "costs"]},
    "leading": {"lead": ["project", "edit", "locked", "costs"], "shows_led": ["project", "edit", "value", "locked", "costs"],
                "shows_refused": ["project", "edit", "value", "locked", "costs"]},
    "texts": {"show_edit": ["edit"], "read_edit": ["text"], "show_plan": ["plan"], "read_plan": ["text"], "show_output": ["project", "file"]},
}
# The methods of classes with their arguments, the signs, the properties.
CLASSES = {
    ("projects", "Project"): (
        {"__init__": ["self", "files"], "serials": ["self", "file", "name"], "next_serial": ["self", "file", "name"], "written": ["self", "name", "text"]},
        ("__getitem__", "__contains__", "__len__", "__eq__"), ("files", "names", "documents")),
    ("kept", "Kept"): (
        {"__init__": ["self", "project"], "changed": ["self", "plan"], "rewritten": ["self", "name", "text"]},
        ("__getitem__", "__len__"), ("project", "worked")),
    ("history", "History"): (
        {"__init__": ["self", "project"], "lead": ["self", "edit", "locked", "costs"], "write": ["self", "name", "text"], "undo": ["self"], "redo": ["self"],
         "mark": ["self", "name"], "go": ["self", "name"], "merge": ["self", "other", "locked", "costs"], "trial": ["self"], "tried": ["self", "look"],
         "states": ["self"], "text": ["self"]},
        ("__getitem__", "__len__", "__eq__"), ("project", "kept", "place", "marks")),
    ("desk", "Desk"): ({"__init__": ["self"], "say": ["self", "line"]}, (), ()),
}
GENERATORS = {"tokens", "clashes", "trace", "selections"}


class Interface(unittest.TestCase):
    def test_functions(self):
        for module, functions in FUNCTIONS.items():
            found = importlib.import_module("sourceback." + module)
            for name, arguments in functions.items():
                function = getattr(found, name)
                self.assertTrue(inspect.isfunction(function))
                self.assertEqual(function.__module__, "sourceback." + module)
                self.assertEqual(list(inspect.signature(function).parameters), arguments)
                self.assertEqual(inspect.isgeneratorfunction(function), name in GENERATORS, name)

                for argument in inspect.signature(function).parameters.values():
                    behind = {"locked": argument.KEYWORD_ONLY, "costs": argument.VAR_KEYWORD}
                    self.assertEqual(argument.kind, behind.get(argument.name, argument.POSITIONAL_OR_KEYWORD), name)

    def test_classes(self):
        for (module, name), (methods, signs, properties) in CLASSES.items():
            found = getattr(importlib.import_module("sourceback." + module), name)
            self.assertEqual(found.__module__, "sourceback." + module)
            for method, arguments in methods.items():
                signature = inspect.signature(vars(found)[method])
                self.assertEqual(list(signature.parameters), arguments)
                self.assertEqual(inspect.isgeneratorfunction(vars(found)[method]), method == "states")
                for argument in signature.parameters.values():
                    behind = {"locked": argument.KEYWORD_ONLY, "costs": argument.VAR_KEYWORD}
                    self.assertEqual(argument.kind, behind.get(argument.name, argument.POSITIONAL_OR_KEYWORD), method)
            for part in signs + properties:
                self.assertIn(part, vars(found))
            for part in properties:
                self.assertIsInstance(vars(found)[part], property)
                self.assertIsNone(vars(found)[part].fset)

    def test_a_class_method(self):
        history = importlib.import_module("sourceback.history").History
        self.assertIsInstance(vars(history)["read"], classmethod)
        self.assertEqual(list(inspect.signature(history.read).parameters), ["text"])

    def test_what_leading_gives(self):
        leading = importlib.import_module("sourceback.leading")
        self.assertEqual(leading.Led.__module__, "sourceback.leading")
        project = importlib.import_module("sourceback.projects").Project((("main", "document { a: 1 }"),))
        led = leading.lead(project, (("set", ("main", ("a",)), 2),))
        self.assertIs(type(led), leading.Led)
        self.assertEqual((led.project["main"], led.plan, led.cost, len(led.paper)), ("document { a: 2 }", (("set", ("main", "", ("a",)), 2),), 2, 2))


if __name__ == "__main__":
    unittest.main()
