"""The examples of points 2 to 5, as they stand in the document."""

import unittest

from helping import fault
from sourceback.errors import SourceError
from sourceback.files import is_name, tokens
from sourceback.places import definition, levels, places
from sourceback.projects import Project
from sourceback.values import output, value_of

BOXES = ("main", 'template line { size: 2 } template box { width: 40 edge: new line } template wide = box { width: 60 } document { first: new box second: new wide { edge: { size: 3 } } }')
SHELF = ("main", 'list goods (p: number) [ { p: 1 } ] template line { w: 2 } template shelf { rows: for g in goods give line { w: 3 } } document { s: new shelf }')
PEOPLE = ("main", 'list people (name: text) [ { name: "Ann" } { name: "Bob" } ] list tasks (title: text, owner: text) [ { title: "a" owner: "Ann" } { title: "b" owner: "Bob" } { title: "c" owner: "Ann" } ] template card { title: "" } template person { name: "" cards: for t in tasks where t.owner = name give card { title: t.title } } document { people: for p in people give person { name: p.name } }')


class Examples(unittest.TestCase):
    def test_names_and_tokens(self):
        self.assertEqual(
            [is_name("box"), is_name("new"), is_name("Box"), list(tokens('a: -2 # x'))],
            [True, False, False, [(0, 'a'), (1, ':'), (3, '-'), (4, '2')]])

    def test_forms(self):
        self.assertEqual(fault("document { a: 3 + 4 }"), ("form", "main", 20))
        self.assertEqual(fault("document { a: - - 3 }"), ("form", "main", 16))
        self.assertEqual(fault("template t { a: 1 } template w = t { let a: 2 }"), ("form", "main", 37))

    def test_a_circle(self):
        with self.assertRaises(SourceError) as caught:
            Project((("main", "document { a: b b: a }"),))
        error = caught.exception
        self.assertEqual((error.word, error.file, error.index), ("circle", "main", 0))

    def test_places(self):
        project = Project((BOXES,))
        self.assertEqual(
            output(project, "main"),
            (('first', (('width', 40), ('edge', (('size', 2),)))), ('second', (('width', 60), ('edge', (('size', 3),))))))
        self.assertEqual(
            levels(project, ("main", ("second", "edge", "size"))),
            (('main', '', ('second', 'edge', 'size')), ('main', 'wide', ('edge', 'size')),
             ('main', 'box', ('edge', 'size')), ('main', 'line', ('size',))))
        self.assertEqual(
            [definition(project, spot) for spot in levels(project, ("main", ("second", "width")))],
            [None, ('literal', 60), ('literal', 40)])
        self.assertEqual(
            levels(Project((SHELF,)), ("main", ("s", "rows", 0, "w"))),
            (('main', 'shelf', ('rows', '*', 'w')), ('main', 'line', ('w',))))
        self.assertEqual(value_of(project, ("main", ("second", "width"))), 60)

    def test_people(self):
        project = Project((PEOPLE,))
        self.assertEqual(places(project), (
            ("main", ("people", 0, "cards", 0, "title")), ("main", ("people", 0, "cards", 2, "title")),
            ("main", ("people", 0, "name")), ("main", ("people", 1, "cards", 1, "title")), ("main", ("people", 1, "name"))))
        self.assertEqual(output(project, "main"), (("people", (
            (("name", "Ann"), ("cards", ((("title", "a"),), (("title", "c"),)))),
            (("name", "Bob"), ("cards", ((("title", "b"),),))))),))


if __name__ == "__main__":
    unittest.main()
