"""The examples of points 2 to 5, 8, 11 and 12, as they stand in the document."""

import unittest

from helping import fault
from sourceback.edits import wish_of
from sourceback.errors import SourceError
from sourceback.files import is_name, tokens
from sourceback.merging import changes, clashes
from sourceback.places import definition, levels, places
from sourceback.projects import Project
from sourceback.traces import sources, trace
from sourceback.values import output, value_of

BOXES = ("main", 'template line { size: 2 } template box { width: 40 edge: new line } template wide = box { width: 60 } document { first: new box second: new wide { edge: { size: 3 } } }')
SHELF = ("main", 'list goods (p: number) [ { p: 1 } ] template line { w: 2 } template shelf { rows: for g in goods give line { w: 3 } } document { s: new shelf }')
PEOPLE = ("main", 'list people (name: text) [ { name: "Ann" } { name: "Bob" } ] list tasks (title: text, owner: text) [ { title: "a" owner: "Ann" } { title: "b" owner: "Bob" } { title: "c" owner: "Ann" } ] template card { title: "" } template person { name: "" cards: for t in tasks where t.owner = name give card { title: t.title } } document { people: for p in people give person { name: p.name } }')

THREE = ("main", 'template t { a: 3 } document { u: new t v: new t w: new t }')
SUMS = ("main", 'document { let gap: 3 let rim: 1 width: 2 * gap + 3 * rim inner: 2 * gap }')
drag = (("carry", ("main", ("people", 0, "cards")), 2, ("main", ("people", 1, "cards")), 0),)


class Examples(unittest.TestCase):
    def test_names_and_tokens(self):
        self.assertEqual(
            [is_name("box"), is_name("new"), is_name("Box"), list(tokens('a: -2 # x'))],
            [True, False, False, [(0, 'a'), (1, ':'), (3, '-'), (4, '2')]])

    def test_forms(self):
        self.assertEqual(fault("document { a: 3 + 4 }"), ("form", "main", 20))
        self.assertEqual(fault("document { a: - - 3 }"), ("form", "main", 16))
        self.assertEqual(fault("template t { a: 1 } template w = t { let a: 2 }"), ("form", "main", 37))

    def test_a_circle(self):
        with self.assertRaises(SourceError) as caught:
            Project((("main", "document { a: b b: a }"),))
        error = caught.exception
        self.assertEqual((error.word, error.file, error.index), ("circle", "main", 0))

    def test_places(self):
        project = Project((BOXES,))
        self.assertEqual(
            output(project, "main"),
            (('first', (('width', 40), ('edge', (('size', 2),)))), ('second', (('width', 60), ('edge', (('size', 3),))))))
        self.assertEqual(
            levels(project, ("main", ("second", "edge", "size"))),
            (('main', '', ('second', 'edge', 'size')), ('main', 'wide', ('edge', 'size')),
             ('main', 'box', ('edge', 'size')), ('main', 'line', ('size',))))
        self.assertEqual(
            [definition(project, spot) for spot in levels(project, ("main", ("second", "width")))],
            [None, ('literal', 60), ('literal', 40)])
        self.assertEqual(
            levels(Project((SHELF,)), ("main", ("s", "rows", 0, "w"))),
            (('main', 'shelf', ('rows', '*', 'w')), ('main', 'line', ('w',))))
        self.assertEqual(value_of(project, ("main", ("second", "width"))), 60)

    def test_people(self):
        project = Project((PEOPLE,))
        self.assertEqual(places(project), (
            ("main", ("people", 0, "cards", 0, "title")), ("main", ("people", 0, "cards", 2, "title")),
            ("main", ("people", 0, "name")), ("main", ("people", 1, "cards", 1, "title")), ("main", ("people", 1, "name"))))
        self.assertEqual(output(project, "main"), (("people", (
            (("name", "Ann"), ("cards", ((("title", "a"),), (("title", "c"),)))),
            (("name", "Bob"), ("cards", ((("title", "b"),),))))),))

    def test_wishes(self):
        self.assertEqual(
            wish_of(Project((THREE,)), (("set", ("main", ("u", "a")), 5),)),
            (((('main', ('u', 'a')), 5), (('main', ('v', 'a')), 3), (('main', ('w', 'a')), 3)), ()))

    def test_merging(self):
        title = (("set", ("main", ("people", 0, "cards", 2, "title")), "cc"),)
        self.assertEqual(
            [changes(Project((PEOPLE,)), drag), list(clashes(Project((PEOPLE,)), drag, title))],
            [(('row', ('main', ('people', 0, 'cards')), 2), ('rows', ('main', ('people', 0, 'cards'))),
              ('rows', ('main', ('people', 1, 'cards')))), []])

    def test_traces(self):
        self.assertEqual(
            list(trace(Project((BOXES,)), ("value", ("main", ("second", "width"))))),
            [('none', ('main', '', ('second', 'width'))), ('literal', ('main', 'wide', ('width',)), 60)])
        self.assertEqual(
            sources(Project((SUMS,)), ("value", ("main", ("width",)))),
            (('main', '', ('gap',)), ('main', '', ('rim',))))


if __name__ == "__main__":
    unittest.main()
