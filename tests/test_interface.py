"""The interface: each name in its module, defined there, with its arguments."""

import importlib
import inspect
import unittest

from sourceback.projects import Project

FUNCTIONS = {
    "files": {"is_name": ["value"], "tokens": ["text"]},
    "places": {"places": ["project"], "hidden_places": ["project"], "rows_places": ["project"],
               "levels": ["project", "place"], "definition": ["project", "spot"]},
    "values": {"value_of": ["project", "place"], "shown": ["project", "rows_place"],
               "output": ["project", "file"], "labelled": ["project", "file"]},
    "edits": {"wish_of": ["project", "edit"], "wished": ["project", "edit", "file"]},
    "merging": {"changes": ["project", "edit"], "clashes": ["project", "one", "other"], "merged": ["project", "one", "other"]},
    "traces": {"things": ["project"], "worth": ["project", "thing"], "trace": ["project", "thing"],
               "sources": ["project", "thing"], "readers": ["project", "value"]},
}
METHODS = {"__init__": ["self", "files"], "serials": ["self", "file", "name"], "next_serial": ["self", "file", "name"],
           "written": ["self", "name", "text"]}
SIGNS = ("__getitem__", "__contains__", "__len__", "__eq__")
PROPERTIES = ("files", "names", "documents")


GENERATORS = {"tokens", "clashes", "trace"}


class Interface(unittest.TestCase):
    def test_functions(self):
        for module, functions in FUNCTIONS.items():
            found = importlib.import_module("sourceback." + module)
            for name, arguments in functions.items():
                function = getattr(found, name)
                self.assertTrue(inspect.isfunction(function))
                self.assertEqual(function.__module__, "sourceback." + module)
                self.assertEqual(list(inspect.signature(function).parameters), arguments)
                self.assertEqual(inspect.isgeneratorfunction(function), name in GENERATORS, name)

    def test_project(self):
        self.assertEqual(Project.__module__, "sourceback.projects")
        for name, arguments in METHODS.items():
            self.assertEqual(list(inspect.signature(vars(Project)[name]).parameters), arguments)
        for name in SIGNS + PROPERTIES:
            self.assertIn(name, vars(Project))

    def test_properties_cannot_be_assigned(self):
        project = Project((("main", ""),))
        for name in PROPERTIES:
            with self.assertRaises(AttributeError):
                setattr(project, name, ())


if __name__ == "__main__":
    unittest.main()
