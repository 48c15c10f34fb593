"""Points 7 and 9 and guarantees (b) and (c): edits led back, and what is refused."""

import random
import unittest

from helping import project
from small import small_worlds
from sourceback.edits import wish_of, wished
from sourceback.errors import BadEdit, Refused, StepError, TooLarge
from sourceback.leading import Led, lead, shows_led, shows_refused
from sourceback.plans import cost_of, is_plan, made
from sourceback.projects import Project
from sourceback.rows import chains
from sourceback.search import selections
from sourceback.values import labelled, output
from test_examples import PEOPLE, SUMS, THREE, drag

A, B, ALL = ("main", ("people", 0, "cards")), ("main", ("people", 1, "cards")), ("main", ("people",))
HIDES = ("main", 'template base { let m: 0 a: 2 * m } template w = base { a: 5 } document { u: new w { m: 1 } v: new w { m: 2 } }')
NAMES = [one + other for one in "abcdefgh" for other in "abcdefghij"]


class Leading(unittest.TestCase):
    def leads(self, found, edit, cost, locked=(), **costs):
        """The edit is led back, at this cost, and the paper shows it."""
        before = found.files
        led = lead(found, edit, locked=locked, **costs)
        self.assertIs(type(led), Led)
        self.assertEqual(led.cost, cost, led.plan)
        self.assertEqual(cost_of(found, led.plan, **costs), cost)
        self.assertTrue(is_plan(found, led.plan, locked=locked))
        self.assertEqual(led.project, made(found, led.plan))
        for file in found.documents:
            self.assertEqual(labelled(led.project, file), wished(found, edit, file))
            self.assertEqual(output(Project(led.project.files), file), output(led.project, file))
        self.assertIs(shows_led(found, edit, (led.plan, led.paper), locked=locked, **costs), True)
        self.assertIs(shows_refused(found, edit, (led.plan, led.paper), locked=locked, **costs), False)
        self.assertEqual(led.paper[1], chains(found, edit, locked=locked))
        self.assertEqual(found.files, before)
        return led

    def refuses(self, found, edit, word, locked=(), **costs):
        with self.assertRaises(Refused) as caught:
            lead(found, edit, locked=locked, **costs)
        error = caught.exception
        self.assertEqual(error.word, word)
        self.assertIs(shows_refused(found, edit, (error.word, error.paper), locked=locked, **costs), True)
        if word == "spots":
            self.assertEqual(list(selections(found, edit, locked=locked, **costs)), [])
        return error.paper


class Examples(Leading):
    def test_three(self):
        led = lead(Project((THREE,)), (("set", ("main", ("u", "a")), 5), ("set", ("main", ("v", "a")), 5)))
        self.assertEqual([led.cost, led.plan, led.project["main"]],
                         [5, (('set', ('main', '', ('w', 'a')), 3), ('set', ('main', 't', ('a',)), 5)),
                          'template t { a: 5 } document { u: new t v: new t w: new t { a: 3 } }'])

    def test_sums(self):
        self.assertEqual(lead(Project((SUMS,)), (("set", ("main", ("width",)), 12),)).plan, (('set', ('main', '', ('rim',)), 2),))
        paper = self.refuses(Project((SUMS,)), (("set", ("main", ("width",)), 10),), "spots")
        self.assertEqual(paper[0], "row")

    def test_hides(self):
        led = lead(Project((HIDES,)), (("set", ("main", ("u", "a")), 2), ("set", ("main", ("v", "a")), 4)))
        self.assertEqual([led.cost, led.plan, led.project["main"][36:60]], [2, (('gone', ('main', 'w', ('a',))),), 'template w = base { } do'])

    def test_shows_refused(self):
        inner, width = ("value", ("main", ("inner",))), ("value", ("main", ("width",)))
        self.assertEqual(shows_refused(Project((SUMS,)), (("set", ("main", ("width",)), 10),), ("spots", ("row", ((inner, -1, 3), (width, 1, 3))))), True)

    def test_a_card_is_carried(self):
        led = self.leads(Project((PEOPLE,)), drag, 3)
        self.assertEqual(led.plan[1:], (("set", ("main", "tasks", (2, "owner")), "Bob"),))
        self.assertIn(led.plan[0][3], ((0, 2, 1), (2, 0, 1), (2, 1, 0)))

    def test_a_person_gets_another_name(self):
        led = self.leads(Project((PEOPLE,)), (("set", ("main", ("people", 1, "name")), "Rob"),), 4)
        self.assertEqual(led.plan, (("set", ("main", "people", (1, "name")), "Rob"), ("set", ("main", "tasks", (1, "owner")), "Rob")))

    def test_a_person_goes_with_all_tasks(self):
        led = self.leads(Project((PEOPLE,)), (("take", ALL, 0),), 6)
        self.assertEqual(led.plan, (("order", "main", "people", (1,)), ("order", "main", "tasks", (1,))))

    def test_a_new_person_gets_a_task(self):
        edit = (("put", ALL, 2, 2, (("name", "Cy"), ("cards", ((1, (("title", "b"),)),)))), ("take", B, 1))
        led = self.leads(Project((PEOPLE,)), edit, 5)
        self.assertEqual(led.plan[1:], (("set", ("main", "people", (2, "name")), "Cy"), ("set", ("main", "tasks", (1, "owner")), "Cy")))
        self.assertEqual((led.project.serials("main", "people")[-1], led.project.next_serial("main", "people")), (2, 3))

    def test_a_card_that_another_document_shows(self):
        both = project(PEOPLE[1], other="import main document { all: for t in tasks give card { title: t.title } }")
        led = self.leads(both, (("take", A, 2),), 2)
        self.assertEqual(led.plan[0][1], ("main", "tasks", (2, "owner")))
        self.assertNotIn(led.plan[0][2], ("Ann", "Bob"))
        self.assertEqual(led.project["other"], both["other"])

    def test_plans_of_two_cannot_be_merged_but_what_they_wish(self):
        found = project("document { k: 1 let n: 4 let m: 4 a: if k = 1 then n else m b: k }")
        self.leads(found, (("set", ("main", ("b",)), 2), ("set", ("main", ("k",)), 2)), 2)
        led = self.leads(found, (("set", ("main", ("k",)), 2), ("set", ("main", ("b",)), 2), ("set", ("main", ("a",)), 5)), 4)
        self.assertEqual(led.plan, (("set", ("main", "", ("k",)), 2), ("set", ("main", "", ("m",)), 5)))

    def test_x_and_y(self):
        found = project("document { let x: 1 let y: 1 p: x + y q: x - y }")
        self.assertEqual(self.leads(found, (("set", ("main", ("p",)), 4),), 4).plan, (("set", ("main", "", ("x",)), 2), ("set", ("main", "", ("y",)), 2)))
        self.assertEqual(self.leads(found, (("set", ("main", ("q",)), 2),), 4).plan, (("set", ("main", "", ("x",)), 2), ("set", ("main", "", ("y",)), 0)))
        self.refuses(found, (("set", ("main", ("q",)), 1),), "spots")

    def test_an_edit_that_changes_nothing(self):
        for found in (Project((THREE,)), Project((PEOPLE,)), project(""), project("document { }")):
            led = self.leads(found, (), 0)
            self.assertEqual((led.plan, led.paper[0]), ((), ("cost",)))

    def test_unknowns_that_stand_in_no_demand(self):
        found = project('list l (n: number, m: text, k: number) [ ] template t { v: 0 } document { r: for x in l give t { v: x.k } }')
        led = self.leads(found, (("put", ("main", ("r",)), 0, 0, (("v", 7),)),), 3)
        self.assertEqual(led.plan, (("order", "main", "l", (0,)), ("set", ("main", "l", (0, "k")), 7), ("set", ("main", "l", (0, "m")), ""),
                                    ("set", ("main", "l", (0, "n")), 0)))

    def test_names_that_must_stay_unlike(self):
        self.refuses(Project((PEOPLE,)), (("set", ("main", ("people", 0, "name")), "Bob"),), "spots")
        both = (("set", ("main", ("people", 0, "name")), "Bob"), ("set", ("main", ("people", 1, "name")), "Ann"))
        self.leads(Project((PEOPLE,)), both, 10)
        three = project(PEOPLE[1].replace('{ title: "a" owner: "Ann" } ', "").replace('{ title: "c" owner: "Ann" }', ""))
        # Two people of one name show the same tasks.
        self.refuses(three, (("set", ("main", ("people", 0, "name")), "Bob"),), "spots")
        self.leads(three, (("set", ("main", ("people", 0, "name")), "Bob"), ("put", A, 0, 0, (("title", "b"),))), 2)

    def test_a_text_that_no_one_has(self):
        names = ["", "a", "b", "c", "aa"]
        found = project('list l (m: text) [ { m: "" } ] template t { } document { all: for x in l give t '
                        + " ".join(f'r{at}: for x in l where x.m = "{name}" give t' for at, name in zip("vwxyz", names)) + " }")
        led = self.leads(found, (("take", ("main", ("rv",)), 0),), 2)
        self.assertNotIn(led.plan[0][2], names)

    def test_a_number_that_no_one_has(self):
        found = project("list l (n: number) [ { n: 0 } ] template t { } document { all: for x in l give t "
                        + " ".join(f"r{at}: for x in l where x.n = {number} give t" for at, number in zip("uvwxyz", (0, 1, -1, 2, -2, 3))) + " }")
        led = self.leads(found, (("take", ("main", ("ru",)), 0),), 2)
        self.assertNotIn(led.plan[0][2], (0, 1, -1, 2, -2, 3))


class Rows(Leading):
    def test_costs_of_items(self):
        found = Project((PEOPLE,))
        costs = {"delete": 7, "insert": 5, "move": 9, "change": 1}
        self.leads(found, (("take", ALL, 0),), 21, **costs)
        self.leads(found, drag, 10, **costs)
        self.leads(found, (("put", A, 1, 3, (("title", "d"),)),), 5, **costs)
        self.leads(found, (("carry", ALL, 1, ALL, 0),), 9, **costs)
        self.leads(found, (("carry", ALL, 1, ALL, 0), ("take", A, 2), ("put", B, 0, 3, (("title", ""),))), 9 + 7 + 5, **costs)

    def test_the_order_of_each_list_that_changes(self):
        found = project("list l (n: number) [ { n: 0 } { n: 1 } { n: 2 } { n: 3 } ] template t { v: 0 } "
                        "document { a: for x in l give t { v: x.n } b: for x in l where x.n = 1 give t }")
        a = ("main", ("a",))
        for edit, cost in [((("carry", a, 3, a, 0),), 1), ((("carry", a, 0, a, 3), ("carry", a, 1, a, 2)), 2), ((("take", a, 0),), 2),
                           ((("put", a, 2, 4, (("v", 9),)),), 3), ((("put", a, 0, 4, (("v", 9),)), ("take", a, 3)), 5)]:
            led = self.leads(found, edit, cost)
            self.assertEqual(len([deed for deed in led.plan if deed[0] == "order"]), 1)
        # The item that both loops show stays if it is taken from one of them.
        self.refuses(found, (("take", ("main", ("b",)), 1),), "spots")
        self.refuses(found, (("take", a, 1),), "shown")
        self.leads(found, (("take", a, 1), ("take", ("main", ("b",)), 1)), 2)

    def test_refusals_in_their_order(self):
        text = "list l (n: number) [ { n: 0 } { n: 1 } ] template t { } document { a: for x in l give t b: for x in l give t%s }"
        found = project(lib=text % " c: for x in l where x.n = 0 give t", main=text % "")
        circle = (("carry", ("lib", ("a",)), 1, ("lib", ("a",)), 0),)
        shown = (("take", ("lib", ("a",)), 1),)
        other = (("carry", ("main", ("a",)), 1, ("main", ("a",)), 0),)
        spots = (("take", ("lib", ("c",)), 0), ("put", ("lib", ("c",)), 0, 1, ()))
        self.assertEqual(len(self.refuses(found, circle, "order")), 2)
        self.assertEqual(self.refuses(found, shown, "shown"), (("lib", ("a",)), 1))
        self.assertEqual(self.refuses(found, shown + other, "order")[0][1][0], "main")
        self.assertEqual(self.refuses(found, circle + other, "order")[0][1][0], "lib")
        self.assertEqual(self.refuses(found, circle, "locked", locked=("lib",)), ("lib", "l"))
        self.assertEqual(self.refuses(found, circle + other, "locked", locked=("main",)), ("main", "l"))
        self.assertEqual(self.refuses(found, circle + other, "locked", locked=("main", "lib")), ("lib", "l"))
        self.refuses(found, circle + other, "order", locked=("nofile",))
        self.leads(found, spots, 4)
        self.refuses(found, spots, "spots", locked=("lib",))
        self.assertEqual(self.refuses(found, spots + shown, "shown", locked=("lib",)), (("lib", ("a",)), 1))

    def test_locked_items(self):
        found = project(lib="list l (n: number) [ { n: 0 } { n: 1 } ] list k (n: number) [ { n: 0 } ]",
                        main="import lib template t { v: 0 } document { a: for x in l where x.n = 0 give t b: for x in k give t }")
        a, b = ("main", ("a",)), ("main", ("b",))
        put = (("put", a, 0, 2, (("v", 0),)),)
        self.leads(found, put, 3)
        self.assertEqual(self.refuses(found, put, "locked", locked=("lib",)), ("lib", "l"))
        self.leads(found, put, 3, locked=("main",))
        self.leads(found, (("take", a, 0),), 2)
        # In a locked file no item goes: it stays, but is not to be shown.
        self.refuses(found, (("take", a, 0),), "spots", locked=("lib",))
        self.assertEqual(self.refuses(found, (("take", b, 0),), "shown", locked=("lib",)), (b, 0))
        swap = project(lib="list l (n: number) [ { n: 0 } { n: 0 } ]", main="import lib template t { } document { a: for x in l give t }")
        self.assertEqual(self.refuses(swap, (("carry", a, 1, a, 0),), "locked", locked=("lib",)), ("lib", "l"))

    def test_circles_as_short_as_can_be(self):
        found = project("list l (a: number, b: number, c: number) [ { a: 1 b: 0 c: 1 } { a: 1 b: 1 c: 0 } { a: 0 b: 1 c: 1 } ] template t { } "
                        "document { a: for x in l where x.a = 1 give t b: for x in l where x.b = 1 give t c: for x in l where x.c = 1 give t }")
        c, a = ("main", ("c",)), ("main", ("a",))
        paper = self.refuses(found, (("carry", c, 2, c, 0),), "order")
        self.assertEqual(sorted(paper), [(0, a), (1, ("main", ("b",))), (2, c)])
        self.leads(found, (("carry", c, 2, c, 0), ("carry", a, 1, a, 0)), 1)

    def test_rows_in_records_and_rows_in_rows(self):
        found = project("list l (n: number, k: number) [ { n: 0 k: 0 } { n: 1 k: 0 } { n: 0 k: 1 } ] template leaf { v: 0 } "
                        "template twig { n: 0 leaves: for x in l where x.n = n give leaf { v: x.k } } template box { let m: 1 rows: for x in l where x.k = m give twig { n: x.n } } "
                        "document { b: new box { m: 0 } c: new box }")
        rows = ("main", ("b", "rows"))
        self.assertEqual(dict(wish_of(found, ())[1])[rows], (0, 1))
        self.leads(found, (("set", ("main", ("b", "rows", 0, "leaves", 0, "v")), 0),), 0)
        self.leads(found, (("carry", rows, 1, rows, 0),), 1)
        self.refuses(found, (("set", ("main", ("b", "rows", 0, "n")), 5),), "spots")
        everywhere = tuple(("set", ("main", path), 5) for path in (("b", "rows", 0, "n"), ("c", "rows", 2, "n")))
        led = self.leads(found, everywhere, 4)
        self.assertEqual([deed[1][2] for deed in led.plan], [(0, "n"), (2, "n")])


class Bounds(Leading):
    """Just at each bound an edit is led back, one beyond it is too large."""

    def sizes(self, at, beyond, word, edit=(), locked=()):
        self.assertIsInstance(lead(at, edit, locked=locked), Led)
        self.too_large(beyond, word, edit, locked)

    def too_large(self, found, word, edit=(), locked=()):
        for ask in (lambda: lead(found, edit, locked=locked), lambda: list(selections(found, edit, locked=locked)),
                    lambda: shows_led(found, edit, None, locked=locked), lambda: shows_refused(found, edit, (), locked=locked),
                    lambda: shows_refused(found, edit, ("spots", ("row", ())), locked=locked)):
            with self.assertRaises(TooLarge) as caught:
                ask()
            self.assertEqual(caught.exception.word, word)

    def test_places(self):
        def text(count, hidden=0):
            return project("document { let h: 1 " + " ".join(f"{name}: h" for name in NAMES[:count]) + " " + " ".join(f"let {name}: h" for name in NAMES[61:61 + hidden]) + " }")
        self.sizes(text(60, 5), text(61, 5), "places")
        edit = tuple(("set", ("main", (name,)), 7) for name in NAMES[:60])
        self.assertEqual(lead(text(60), edit).cost, 2)
        rows = project("list l () [ { } { } { } { } { } { } ] template t { " + " ".join(f"{name}: 1" for name in NAMES[:10]) + " } document { r: for x in l give t }")
        self.assertIsInstance(lead(rows, ()), Led)
        record = tuple((name, 1) for name in NAMES[:10])
        self.too_large(rows, "places", (("put", ("main", ("r",)), 0, 6, record),))
        self.assertIsInstance(lead(rows, (("put", ("main", ("r",)), 0, 6, record), ("take", ("main", ("r",)), 0))), Led)

    def test_rows(self):
        def text(count, hidden=0):
            return project("list l () [ ] template t { r: for x in l give u } template u { } document { "
                           + " ".join(f"{name}: for x in l give u" for name in NAMES[:count]) + " "
                           + " ".join(f"let {name}: new t" for name in NAMES[21:21 + hidden]) + " }")
        self.sizes(text(20, 3), text(21), "rows")
        inner = project("list l (n: number) [ { n: 1 } { n: 2 } ] template t { r: for x in l where x.n = 1 give u } template u { } document { "
                        + " ".join(f"{name}: new t" for name in NAMES[:16]) + " b: for x in l give t }")
        self.assertIsInstance(lead(inner, ()), Led)
        put = (("put", ("main", ("b",)), 2, 2, (("r", ((0, ()),)),)),)
        self.assertIsInstance(lead(inner, put), Led)
        self.too_large(inner, "rows", put + (("put", ("main", ("b",)), 2, 3, (("r", ((0, ()),)),)),))

    def test_spots(self):
        def text(count):
            return project("document { " + " ".join(f"let {name}: 1" for name in NAMES[:count]) + " }")
        self.sizes(text(30), text(31), "spots")

        def uses(count):
            return project("template t { let a: 1 } document { " + " ".join(f"{name}: new t" for name in NAMES[:count]) + " }")
        self.sizes(uses(29), uses(30), "spots")
        fields = ", ".join(f"{name}: number" for name in NAMES[:3])
        item = "{ " + " ".join(f"{name}: 1" for name in NAMES[:3]) + " }"

        def items(count, more=""):
            return project(f"list l ({fields}) [ " + " ".join([item] * count) + " ] template t { } document { r: for x in l give t " + more + " }")
        self.sizes(items(10), items(10, "k: 1"), "spots")
        self.too_large(items(11), "spots")
        # Of items that go the fields do not count, nor of those that come; nor what is shut.
        take, put = ("take", ("main", ("r",)), 0), ("put", ("main", ("r",)), 0, 11, ())
        self.assertIsInstance(lead(items(11), (take,)), Led)
        self.assertIsInstance(lead(items(11), (take, put)), Led)
        self.assertIsInstance(lead(items(10), (("put", ("main", ("r",)), 0, 10, ()),)), Led)
        self.assertIsInstance(lead(items(9, "k: 1 let m: 1 n: 1 v: k w: 2 * k y: if k = 1 then 2 else 3"), ()), Led)
        self.assertIsInstance(lead(items(12), (), locked=("main",)), Led)
        unused = project(f"list l ({fields}) [ " + " ".join([item] * 10) + " ] template t { a: 1 } document { }")
        self.assertIsInstance(lead(unused, ()), Led)
        self.too_large(unused.written("main", unused["main"].replace("document { }", "document { x: 1 }")), "spots")

    def test_spots_in_rows_as_if_each_list_had_one_item(self):
        def text(count):
            return project("list l () [ ] template t { " + " ".join(f"{name}: 1" for name in NAMES[:count]) + " } document { r: for x in l give t }")
        self.sizes(text(15), text(16), "spots")
        put = (("put", ("main", ("r",)), 0, 0, tuple((name, 1) for name in NAMES[:15])),)
        self.assertEqual(lead(text(15), put).cost, 3)

    def test_levels_behind_an_expression_count(self):
        text = "template t { " + " ".join(f"{name}: 1" for name in NAMES[:30]) + " } document { a: new t { " + " ".join(f"{name}: b" for name in NAMES[:30]) + " } b: 1 }"
        self.too_large(project(text), "spots")
        self.assertIsInstance(lead(project(text), (), locked=("main",)), Led)

    def test_ways(self):
        def literals(count):
            return project("document { let h: 1 k: 1 " + " ".join(f"{name}: if h = {at} then 1 else 2 let {name}z: if h = {at} then 3 else k" for at, name in enumerate(NAMES[:count]))
                           + " " + " ".join(f"{name}: if k = {at} then 1 else 2" for at, name in enumerate(NAMES[-20:])) + " }")
        self.sizes(literals(8), literals(9), "ways")

        def rows(count):
            return project("list l (n: number) [ " + "{ n: 1 } " * count + "] template t { let h: 1 a: if h = 1 then 1 else 2 let b: if h = 2 then 1 else 2 } document { r: for x in l give t }")
        self.sizes(rows(4), rows(5), "ways")
        put = (("put", ("main", ("r",)), 0, 4, (("a", 1),)),)
        self.too_large(rows(4), "ways", put)
        self.assertIsInstance(lead(rows(4), put + (("take", ("main", ("r",)), 0),)), Led)

        def fields(count):
            return project("list l (n: number) [ " + "{ n: 1 } " * count + "] template t { a: 1 } document { r: for x in l give t { a: if x.n = 1 then 1 else 2 } }")
        self.sizes(fields(8), fields(9), "ways")
        self.too_large(fields(8), "ways", (("put", ("main", ("r",)), 0, 8, (("a", 1),)),))
        self.assertIsInstance(lead(fields(7), (("put", ("main", ("r",)), 0, 7, (("a", 1),)),)), Led)

    def test_of_each_place_the_outermost_expression_alone(self):
        inner = "template t { let h: 1 " + " ".join(f"{name}: if h = {at} then 1 else 2" for at, name in enumerate(NAMES[:9])) + " }"
        self.too_large(project(inner + " document { a: new t }"), "ways")
        body = " ".join(f"{name}: b" for name in NAMES[:9])
        self.assertIsInstance(lead(project(inner + " document { a: new t { " + body + " } b: 1 }"), ()), Led)
        # A literal ahead of it does not count, as it can be taken away.
        body = " ".join(f"{name}: 5" for name in NAMES[:9])
        self.too_large(project(inner + " document { a: new t { " + body + " } b: 1 }"), "ways")

    def test_two_bounds_at_once(self):
        fields = " ".join(f"{name}: 1" for name in NAMES[:61])
        self.too_large(project("document { " + fields + " }"), "places")
        loops = " ".join(f"{name}: for x in l give u" for name in NAMES[:21])
        hidden = " ".join(f"let {name}: 1" for name in NAMES[30:61])
        ways = " ".join(f"let {name}: if h = {at} then 1 else 2" for at, name in enumerate(NAMES[70:79]))
        head = "list l () [ ] template u { } document { let h: 1 "
        self.too_large(project(head + loops + " " + hidden + " " + ways + " }"), "rows")
        self.too_large(project(head + hidden + " " + ways + " }"), "spots")
        self.too_large(project(head + ways + " }"), "ways")

    def test_large_ones_that_are_led_back(self):
        found = project("document { " + " ".join(f"let {name}: 1" for name in NAMES[:30]) + " s: " + " + ".join(NAMES[:30]) + " }")
        self.leads(found, (("set", ("main", ("s",)), 77),), 2)
        self.assertEqual(len(list(selections(found, (("set", ("main", ("s",)), 77),)))), 30)
        even = project("document { " + " ".join(f"let {name}: 1" for name in NAMES[:30]) + " s: " + " + ".join(f"2 * {name}" for name in NAMES[:30]) + " }")
        self.refuses(even, (("set", ("main", ("s",)), 77),), "spots")
        ways = project("document { " + " ".join(f"let {name}: 1 let {name}z: if {name} = 1 then 2 else 3" for name in NAMES[:8]) + " s: " + " + ".join(f"{name}z" for name in NAMES[:8]) + " }")
        self.leads(ways, (("set", ("main", ("s",)), 20),), 8)
        self.assertEqual(len(list(selections(ways, (("set", ("main", ("s",)), 20),)))), 70)
        self.refuses(ways, (("set", ("main", ("s",)), 25),), "spots")


class Errors(Leading):
    def test_their_order(self):
        found = project("list l () [ { } { } ] template t { } document { a: for x in l give t b: for x in l give t " + " ".join(f"{name}: 1" for name in NAMES[:61]) + " }")
        circle = (("carry", ("main", ("a",)), 1, ("main", ("a",)), 0),)
        for ask in (lead, lambda made, edit: shows_led(made, edit, None), lambda made, edit: shows_refused(made, edit, None)):
            with self.assertRaises(BadEdit):
                ask(found, circle + (("take", ("main", ("a",)), 5), None))
            with self.assertRaises(StepError):
                ask(found, circle + (("take", ("main", ("a",)), 5),))
            with self.assertRaises(TooLarge):
                ask(found, circle)
        with self.assertRaises(Refused):
            lead(project("list l () [ { } { } ] template t { } document { a: for x in l give t b: for x in l give t }"), circle)

    def test_values_that_are_no_edits(self):
        found = Project((PEOPLE,))
        for value in [None, True, 0, "-", [], {}, (None,), (drag,), list(drag), (("set", ALL),), (("take", ALL, True),)]:
            for ask in (lead, lambda made, edit: shows_led(made, edit, ()), lambda made, edit: shows_refused(made, edit, ("spots", None))):
                with self.assertRaises(BadEdit) as caught:
                    ask(found, value)
                self.assertIs(caught.exception.value, value)

    def test_by_name(self):
        found = Project((THREE,))
        edit = (("set", ("main", ("u", "a")), 5),)
        led = lead(project=found, edit=edit, locked=(), add=1)
        self.assertEqual(led.cost, 1)
        self.assertIs(shows_led(project=found, edit=edit, value=(led.plan, led.paper), locked=(), add=1), True)
        self.assertIs(shows_refused(project=found, edit=edit, value=None, locked=(), add=1), False)
        for ask in (lead, shows_led, shows_refused):
            values = [None] if ask is not lead else []
            with self.assertRaises(TypeError):
                ask(found, edit, *values, price=3)
            with self.assertRaises(TypeError):
                ask(found, edit, *values, ())

    def test_a_call_that_raises_changes_nothing(self):
        found = Project((PEOPLE,))
        with self.assertRaises(Refused):
            lead(found, (("set", ("main", ("people", 0, "name")), "Bob"),))
        self.assertEqual(found, Project((PEOPLE,)))
        self.assertEqual((found.serials("main", "tasks"), found.next_serial("main", "tasks")), ((0, 1, 2), 3))


class Chained(Leading):
    """Edits led back one behind another, each from what the one ahead led to."""

    def test_the_way_back_is_never_refused(self):
        """With the same rows: values and orders, whose way back is by sets and carries."""
        chance = random.Random(1)
        chained = 0
        for world, found in small_worlds(chance, 220):
            locked = chance.choice(((), (), ("main",), ("lib",)))
            trail, now = [found], found
            for _ in range(3):
                values = wish_of(now, ())[0]
                edit = tuple(("set", place, chance.choice((0, 1, 2, 5)) if isinstance(value, int) else chance.choice(("", "a", "b")))
                             for place, value in values if chance.random() < 0.4)
                try:
                    led = lead(now, edit, locked=locked)
                except (Refused, TooLarge):
                    continue
                for file in now.documents:
                    self.assertEqual(labelled(led.project, file), wished(now, edit, file))
                now = led.project
                trail.append(now)
            for before in trail[:-1]:
                old = dict(wish_of(before, ())[0])
                back = tuple(("set", place, old[place]) for place, value in wish_of(now, ())[0] if old[place] != value)
                led = lead(now, back, locked=locked)
                for file in now.documents:
                    self.assertEqual(output(led.project, file), output(before, file))
                chained += bool(back)
                self.same_doors(led.project, before, chance, locked)
        self.assertGreater(chained, 60)

    def same_doors(self, one, other, chance, locked):
        """What one project leads back another one with the same outputs leads back, too."""
        edit = tuple(("set", place, chance.choice((0, 1, 2, 5)) if isinstance(value, int) else chance.choice(("", "a", "b")))
                     for place, value in wish_of(one, ())[0] if chance.random() < 0.4)
        found = []
        for made_ in (one, other):
            try:
                lead(made_, edit, locked=locked)
                found.append(True)
            except Refused:
                found.append(False)
        self.assertEqual(found[0], found[1], (one.files, other.files, edit))

    def test_boards(self):
        """People and tasks, edited at random; each state is reached again from the last one."""
        chance = random.Random(2)
        reached = 0
        for _ in range(25):
            now = Project((PEOPLE,))
            states = [now]
            for _ in range(4):
                edit = self.board_edit(now, chance)
                try:
                    led = lead(now, edit)
                except Refused as error:
                    self.assertTrue(shows_refused(now, edit, (error.word, error.paper)))
                    continue
                self.assertTrue(shows_led(now, edit, (led.plan, led.paper)))
                self.assertEqual(labelled(led.project, "main"), wished(now, edit, "main"))
                self.assertEqual(cost_of(now, led.plan), led.cost)
                now = led.project
                states.append(now)
            for state in states[:-1]:
                back = self.board_back(now, state)
                led = lead(now, back)
                self.assertEqual(output(led.project, "main"), output(state, "main"))
                reached += bool(back)
        self.assertGreater(reached, 40)

    def board_edit(self, now, chance):
        rows = dict(wish_of(now, ())[1])
        what = chance.random()
        cards = [place for place in rows if len(place[1]) == 3]
        place = chance.choice(cards) if cards else ALL
        other = chance.choice(cards) if cards else ALL
        if what < 0.3 and rows[place] and place != ALL:
            serial = chance.choice(rows[place])
            return (("carry", place, serial, other, chance.randrange(len(rows[other]) + (other != place))),)
        if what < 0.45 and rows[ALL]:
            return (("set", ("main", ("people", chance.choice(rows[ALL]), "name")), chance.choice(("Ann", "Bob", "Cy", "Di"))),)
        if what < 0.6 and rows[place]:
            return (("take", place, chance.choice(rows[place])),)
        if what < 0.8 and place != ALL and len(now.serials("main", "tasks")) < 6:
            return (("put", place, chance.randrange(len(rows[place]) + 1), now.next_serial("main", "tasks"), (("title", chance.choice("xyz")),)),)
        if what < 0.9 and len(rows[ALL]) < 3:
            return (("put", ALL, chance.randrange(len(rows[ALL]) + 1), now.next_serial("main", "people"), (("name", "Ed"), ("cards", ()))),)
        if rows[ALL]:
            return (("carry", ALL, chance.choice(rows[ALL]), ALL, chance.randrange(len(rows[ALL]))),)
        return ()

    def board_back(self, now, state):
        """All people anew as they were there, all tasks with new serials."""
        steps = [("take", ALL, serial) for serial, _ in labelled(now, "main")[0][1]]
        person, task = now.next_serial("main", "people"), now.next_serial("main", "tasks")
        if output(now, "main") == output(state, "main"):
            return ()
        for index, (_, record) in enumerate(labelled(state, "main")[0][1]):
            name, cards = record[0][1], []
            for _, card in record[1][1]:
                cards.append((task, card))
                task += 1
            steps.append(("put", ALL, index, person, (("name", name), ("cards", tuple(cards)))))
            person += 1
        return tuple(steps)


if __name__ == "__main__":
    unittest.main()
