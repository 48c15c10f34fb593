"""Point 7: what the checkers accept, and that they accept nothing else."""

import copy
import random
import unittest

from editing import Ground, sound_edit, visible
from helping import ANY, project
from planning import COSTS, otherwise
from selecting import tree_holds
from small import reachable, small_worlds, somewhere, told
from sourceback.errors import Refused, TooLarge
from sourceback.leading import lead, shows_led, shows_refused
from sourceback.plans import cost_of
from sourceback.projects import Project
from sourceback.rows import chains
from test_examples import PEOPLE, SUMS, THREE, drag
from test_search import patterns
from worlds import Written

A, B, ALL = ("main", ("people", 0, "cards")), ("main", ("people", 1, "cards")), ("main", ("people",))


def value(*path):
    return ("value", ("main", path))


def spot(*path):
    return ("main", "", path)


class Trees(unittest.TestCase):
    """Trees put together by hand. A tree for None is looked at by shows_refused, one for a bound by shows_led."""

    def holds(self, made, edit, tree, expected=True, locked=(), **costs):
        """Whether a tree shows that an edit cannot be led back."""
        found = shows_refused(made, edit, ("spots", tree), locked=locked, **costs)
        self.assertIs(found, expected, tree)

    def shows(self, made, edit, tree, expected=True, locked=(), **costs):
        """Whether a tree shows that the plan with which an edit is led back costs least."""
        led = lead(made, edit, locked=locked, **costs)
        found = shows_led(made, edit, (led.plan, (tree, led.paper[1])), locked=locked, **costs)
        self.assertIs(found, expected, tree)

    def test_three(self):
        """The tree of the document, and with one thing otherwise."""
        t, (u, v, w) = ("main", "t", ("a",)), [spot(name, "a") for name in "uvw"]
        du, dv, dw = [value(name, "a") for name in "uvw"]
        made, edit = Project((THREE,)), (("set", ("main", ("u", "a")), 5), ("set", ("main", ("v", "a")), 5))
        out = ("spot", u, ("row", ((du, 1, 4),)), ("spot", v, ("row", ((dv, 1, 4),)), ("cost",), None), None)
        inner = ("spot", u, ("row", ((du, 1, 4), (dw, -1, 4))), ("cost",), None)
        self.shows(made, edit, ("spot", t, out, ("spot", w, inner, ("cost",), None), None))
        for other in [
                ("spot", t, out, ("spot", w, inner, inner, None), None), ("spot", t, out, inner, None), ("spot", t, out, ("cost",), None),
                ("spot", t, ("row", ((du, 1, 4),)), ("spot", w, inner, ("cost",), None), None), ("spot", t, out, ("spot", w, inner, ("cost",), None), ("cost",)),
                ("spot", t, out, ("spot", w, inner, ("cost",), ("cost",)), None), ("spot", t, out, ("spot", w, inner, ("cost",)), None),
                ("spot", t, out, ("spot", t, inner, ("cost",), None), None), ("spot", t, None, ("spot", w, inner, ("cost",), None), None),
                ("spot", t, out, None, None), ("spot", t, out, ("spot", w, inner, ("cost",), None)), ["spot", t, out, ("spot", w, inner, ("cost",), None), None],
                ("spot", w, inner, ("cost",), None), ("cost",), None, ("row", ((du, 1, 4),)), out, inner]:
            self.shows(made, edit, other, False)
        # With other costs the same selection costs another bound.
        for costs in ({"change": 1}, {"add": 4}):
            self.shows(made, edit, ("spot", t, out, ("spot", w, inner, ("cost",), None), None), True, **costs)
        # Where t costs too much alone, it shows that the sets of u and v cost least.
        self.shows(made, edit, ("spot", t, out, ("spot", w, inner, ("cost",), None), None), True, change=9)
        self.shows(made, edit, ("spot", t, out, ("cost",), None), True, change=6)
        self.shows(made, edit, ("spot", t, out, ("cost",), None), False, change=4, add=3)

    def test_rows(self):
        made = Project((SUMS,))
        edit = (("set", ("main", ("width",)), 10),)
        inner, width = value("inner"), value("width")
        for parts in [((inner, -1, 3), (width, 1, 3)), ((inner, 2, 3), (width, 1, 3)), ((inner, -4, 3), (width, 1, 3)), ((inner, 1, 3), (width, 2, 3)),
                      ((inner, 5, 3), (width, -2, 3))]:
            self.holds(made, edit, ("row", parts))
        for parts in [(), ((inner, -1, 3),), ((width, 1, 3),), ((width, 1, 3), (inner, -1, 3)), ((inner, -1, 2), (width, 1, 2)), ((inner, -2, 6), (width, 2, 6)),
                      ((inner, 1, -3), (width, 1, 3)), ((inner, 0, 1), (width, 1, 3)), ((inner, -1, 3), (inner, -1, 3), (width, 1, 3)), ((inner, -1, 3), (width, 1, 3), (width, 1, 3)),
                      ((inner, -1, 3), (width, 1, 3, 0)), ((inner, -1), (width, 1)), [(inner, -1, 3), (width, 1, 3)], ((inner, -1, 3), [width, 1, 3]),
                      ((inner, -1, 3), (width, True, 3)), ((inner, -1, 3), (width, 1, None)), ((value("gap"), 1, 3), (width, 1, 3)), None, 3, ((inner, -1, 3), (width, 2, 3)),
                      (((["value"], ("main", ("inner",))), -1, 3), (width, 1, 3))]:
            self.holds(made, edit, ("row", parts), False)
        self.holds(made, edit, ("row", ((inner, -1, 3), (width, 1, 3)), ()), False)
        self.holds(made, (("set", ("main", ("width",)), 15),), ("row", ((inner, -1, 3), (width, 1, 3))), False)
        self.holds(made, (("set", ("main", ("width",)), 11),), ("row", ((inner, -1, 3), (width, 1, 3))))
        # A tree that says more than it needs.
        row = ("row", ((inner, -1, 3), (width, 1, 3)))
        self.holds(made, edit, ("spot", spot("rim"), row, row, None))
        self.holds(made, edit, ("spot", spot("rim"), row, ("spot", spot("gap"), row, row, None), None))
        self.holds(made, edit, ("spot", spot("rim"), row, ("spot", spot("rim"), row, row, None), None), False)
        self.holds(made, edit, ("spot", spot("rim"), row, row, row), False)
        self.holds(made, edit, ("cost",), False)

    def test_letters_stand_for_places_not_for_spots(self):
        made = project(main="import lib document { u: new t v: new t }", lib="template t { let h: 1 a: 2 * h }")
        edit = (("set", ("main", ("u", "a")), 4), ("set", ("main", ("v", "a")), 8))
        du, dv, t = value("u", "a"), value("v", "a"), ("lib", "t", ("h",))
        both, alone = ("row", ((du, 1, 8), (dv, -1, 8))), ("row", ((du, 1, 4),))
        # With main locked both letters are one unknown, as soon as it is decided.
        self.holds(made, edit, both, False, ("main",))
        self.holds(made, edit, ("spot", t, alone, both, None), True, ("main",))
        self.holds(made, edit, ("spot", t, both, both, None), True, ("main",))
        self.holds(made, edit, ("spot", t, both, alone, None), False, ("main",))
        self.holds(made, edit, ("spot", t, both, both, None), False)

    def test_spots(self):
        lib = "list l (n: number) [ { n: 1 } { n: 2 } ] template t { a: 1 b: 2 } template w = t { a: 5 } template no { c: 1 }"
        made = project(lib=lib, main="import lib document { let h: 1 k: 2 * h u: new w { a: 7 } r: for x in l where x.n = 1 give t { b: x.n } let e: new w }")
        edit = (("set", ("main", ("k",)), 3),)
        row = ("row", ((value("k"), 1, 2),))
        self.holds(made, edit, row)
        for one, gone in [(spot("h"), None), (spot("u", "a"), row), (spot("u", "b"), None), (("lib", "w", ("a",)), row), (("lib", "w", ("b",)), None),
                          (("lib", "t", ("a",)), None), (("lib", "l", (0, "n")), None), (("lib", "l", (1, "n")), None), (spot("r", "*", "a"), None), (spot("e", "a"), None)]:
            for other in (None, row):
                self.holds(made, edit, ("spot", one, row, row, other), other == gone)
            self.holds(made, edit, ("spot", one, row, row, gone), False, (one[0],))
            self.holds(made, edit, ("spot", one, None, row, gone), False)
            self.holds(made, edit, ("spot", one, row, None, gone), False)
            self.holds(made, edit, ("spot", one, row, row), False)
        for one in [spot("k"), spot("r", "*", "b"), ("lib", "no", ("c",)), spot("u"), spot("u", "c"), spot("x"), ("lib", "l", (2, "n")), ("lib", "l", (True, "n")), ("lib", "l", (0, "m")),
                    ("main", "l", (0, "n")), spot("r", 0, "a"), ("main", ("h",)), None, [], "h", ("main", "", ["h"]), ("main", "", ())] + ANY:
            self.holds(made, edit, ("spot", one, row, row, None), False)

    def test_fields_of_new_items(self):
        made = project("list l (n: number) [ { n: 1 } ] template t { v: 0 } document { let h: 1 k: 2 * h r: for x in l give t { v: x.n } }")
        edit = (("set", ("main", ("k",)), 3), ("put", ("main", ("r",)), 0, 1, (("v", 5),)))
        row = ("row", ((value("k"), 1, 2),))
        self.holds(made, edit, ("spot", ("main", "l", (0, "n")), row, row, None))
        self.holds(made, edit, ("spot", ("main", "l", (1, "n")), row, row, None), False)

    def test_ways(self):
        made = project("document { let h: 1 let n: 4 let m: 5 a: if h = 1 then 2 * n else 2 * m b: if h = 2 then n else 3 k: 1 c: if k = 1 then n else m }")
        edit = (("set", ("main", ("a",)), 9),)
        h, a = ("main", ("h",)), value("a")
        row = ("row", ((a, 1, 2),))
        self.holds(made, edit, row, False)
        self.holds(made, edit, ("way", h, 1, row, row))
        self.holds(made, edit, ("way", h, 2, ("way", h, 1, row, row), ("way", h, 1, row, row)))
        for other in [("way", h, 1, row), ("way", h, 1, row, row, None), ("way", h, 1, row, None), ("way", h, 1, None, row), ("way", h, 3, row, row), ("way", h, True, row, row),
                      ("way", h, "1", row, row), ("field", h, 1, row, row), ("way", spot("h"), 1, row, row), ("way", ("main", ("k",)), 1, row, row), ("way", ("main", ("n",)), 1, row, row),
                      ("way", h, 1, ("way", h, 1, row, row), row), ("way", ["main", ("h",)], 1, row, row), ("way", h, 2, row, row), ("way", None, None, row, row)]:
            self.holds(made, edit, other, False)

    def test_demands_of_ways(self):
        made = project("document { let h: 1 let n: 4 let m: 5 a: if h = 1 then 2 * n else m b: h c: m }")
        h, a, way = ("main", ("h",)), value("a"), ("way", ("main", ("h",)), 1)
        edit = (("set", ("main", ("a",)), 9),)
        # Equal: 2 * n is 9. Unequal: h is seen to be 1.
        forced = ("forced", way, ((value("b"), 1, 1),))
        self.holds(made, edit, ("way",) + way[1:] + (forced, ("row", ((a, 1, 2),))))
        for other in [("forced", way, ()), ("forced", way, ((value("b"), -1, 1),)), ("forced", way, ((value("b"), 1, 2),)), ("forced", value("b"), ((value("b"), 1, 1),)),
                      ("forced", way), ("forced", way, None), ("forced", ("way", h, 2), ((value("b"), 1, 1),)), ("forced", None, ()), ("row", ((way, 1, 2),)), ("strings", (way,))]:
            self.holds(made, edit, ("way",) + way[1:] + (other, ("row", ((a, 1, 2),))), False)
        # The demand of a way says what was decided, and only where it was.
        self.holds(made, edit, forced, False)
        self.holds(made, edit, ("way",) + way[1:] + (("row", ((a, 1, 2),)), forced), False)

    def test_rows_with_demands_of_ways(self):
        made = project("document { let h: 1 let n: 4 let m: 5 a: if h = 1 then 2 * n else m b: 2 * h c: m }")
        way = ("way", ("main", ("h",)), 1)
        edit = (("set", ("main", ("a",)), 9), ("set", ("main", ("b",)), 4))
        # Equal: h is 1, but 2 * h is 4: half of that is h.
        leaf = ("row", ((value("b"), 1, 4), (way, -1, 2)))
        unequal = ("row", ((value("a"), 1, 2), (value("c"), 1, 2)))
        self.holds(made, edit, ("way",) + way[1:] + (unequal, leaf), False)
        unequal = ("row", ((value("a"), 1, 8), (value("c"), -1, 8)))
        self.holds(made, edit, ("way",) + way[1:] + (unequal, leaf), True)
        self.holds(made, edit, ("way",) + way[1:] + (leaf, unequal), False)

    def test_forced_without_parts(self):
        made = project(lib="template t { let h: 1 let n: 1 a: if h = 1 then 2 * n else 3 }", main="import lib document { x: new t }")
        edit = (("set", ("main", ("x", "a")), 3),)
        h = ("main", ("x", "h"))
        tree = ("way", h, 1, ("forced", ("way", h, 1), ()), ("row", ((value("x", "a"), 1, 2),)))
        self.holds(made, edit, tree, True, ("lib", "main"))
        self.holds(made, edit, tree, False, ("main",))
        self.holds(made, edit, ("way", h, 1, ("row", ()), ("row", ((value("x", "a"), 1, 2),))), False, ("lib", "main"))

    def test_fields(self):
        made = project(lib="list l (n: number, m: text) [ { n: 1 m: \"x\" } { n: 2 m: \"y\" } ]",
                       main="import lib template t { v: 0 } document { let k: 3 r: for x in l give t { v: if x.n = 1 then 2 * k else 3 } s: for x in l give t { v: if x.m = \"x\" then 1 else 2 } }")
        edit = (("set", ("main", ("r", 0, "v")), 5),)
        n, m, demand = ("lib", "l", (0, "n")), ("lib", "l", (0, "m")), value("r", 0, "v")
        odd, three = ("row", ((demand, 1, 2),)), ("row", ((demand, 1, 3),))
        good = ("field", n, 1, three, odd)
        self.holds(made, edit, good)
        for other in [("field", n, 1, odd, three), ("field", n, 1, three, three), ("field", n, 1, odd, odd), ("way", n, 1, three, odd), ("field", n, 2, three, odd),
                      ("field", ("lib", "l", (1, "n")), 1, three, odd), ("field", n, True, three, odd), ("field", ("lib", "l", (2, "n")), 1, three, odd),
                      ("field", ("lib", "l", (False, "n")), 1, three, odd), ("field", n, 1, three), ("field", n, 1, good, odd), ("field", n, 1, three, good), ("field", m, 1, good, good)]:
            self.holds(made, edit, other, False)
        self.holds(made, edit, ("field", m, "x", good, good))
        # Also of an item that comes.
        put = (("put", ("main", ("r",)), 2, 2, (("v", 5),)), ("put", ("main", ("s",)), 2, 2, (("v", 1),)))
        new, demand = ("lib", "l", (2, "n")), value("r", 2, "v")
        last = (("row", ((demand, 1, 3),)), ("row", ((demand, 1, 2),)))
        self.holds(made, put, ("field", new, 1) + last, True)
        self.holds(made, put, ("field", ("lib", "l", (3, "n")), 1) + last, False)
        # The demand of a field.
        tree = ("field", n, 1, ("forced", ("field", n, 1), ()), odd)
        self.holds(made, edit, tree, True, ("lib",))
        self.holds(made, edit, tree, False)

    def test_strings(self):
        made = Project((PEOPLE,))
        edit = (("set", ("main", ("people", 0, "name")), "Bob"),)
        zero, one, two = value("people", 0, "name"), value("people", 1, "name"), ("shown", A, 1)
        shown = ("shown", B, 1)
        self.holds(made, edit, ("strings", (two, shown, zero, one)))
        for names in [(zero, one), (two, zero, one), (two, shown, zero), (shown, zero, one), (), (shown, two, zero, one), (two, shown, zero, one, one), [two, shown, zero, one],
                      (("shown", A, True), shown, zero, one), (two, shown, zero, value("people", 2, "name")), (two, shown, zero, ("way", zero, 1)), None, "shown", (None,)]:
            self.holds(made, edit, ("strings", names), False)
        more = ("strings", (("shown", A, 0), two, shown, ("shown", B, 2), value("people", 0, "cards", 0, "title"), zero, one))
        self.holds(made, edit, ("strings", tuple(sorted(more[1]))))
        self.holds(made, edit, ("strings", (two, shown, zero, one), ()), False)
        # What is to be unlike itself.
        alike = project('list l (o: text) [ { o: "A" } ] template t { } document { a: for x in l where x.o = "A" give t b: for x in l where x.o = "A" give t }')
        take = (("take", ("main", ("b",)), 0),)
        self.holds(alike, take, ("strings", (("shown", ("main", ("a",)), 0), ("shown", ("main", ("b",)), 0))))
        self.holds(alike, take, ("strings", (("shown", ("main", ("b",)), 0),)), False)
        field = ("main", "l", (0, "o"))
        leaf = ("strings", (("shown", ("main", ("a",)), 0), ("shown", ("main", ("b",)), 0)))
        self.holds(alike, take, ("spot", field, ("strings", (("shown", ("main", ("b",)), 0),)), leaf, None))
        self.holds(alike, take, ("spot", field, leaf, ("strings", (("shown", ("main", ("b",)), 0),)), None), False)

    def test_kinds_are_not_mixed(self):
        made = project('document { let h: 1 k: 2 * h let s: "a" t: s u: s }')
        edit = (("set", ("main", ("k",)), 3), ("set", ("main", ("t",)), "b"))
        row, strings = ("row", ((value("k"), 1, 2),)), ("strings", (value("t"), value("u")))
        self.holds(made, edit, row)
        self.holds(made, edit, strings)
        self.holds(made, edit, ("row", ((value("k"), 1, 2), (value("t"), 1, 2))), False)
        self.holds(made, edit, ("row", ((value("t"), 1, 2),)), False)
        self.holds(made, edit, ("strings", (value("k"), value("t"), value("u"))), False)
        self.holds(made, edit, ("strings", (value("k"),)), False)

    def test_a_row_takes_only_what_says_equal(self):
        made = project("list l (n: number) [ { n: 1 } ] template t { v: 0 } document { a: for x in l where x.n = 1 give t b: for x in l give t { v: 2 * x.n } }")
        edit = (("take", ("main", ("a",)), 0),)
        shown, seen = ("shown", ("main", ("a",)), 0), value("b", 0, "v")
        self.holds(made, edit, ("forced", shown, ((seen, 1, 2),)))
        for tree in [("row", ((shown, 1, 2),)), ("row", ((shown, 1, 2), (seen, 1, 2))), ("forced", shown, ((seen, 1, 1),)), ("forced", shown, ((shown, 1, 2),)), ("forced", seen, ((seen, 1, 2),))]:
            self.holds(made, edit, tree, False)

    def test_costs(self):
        made = project("document { let h: 1 a: h }")
        edit = (("set", ("main", ("a",)), 3),)
        row, h = ("row", ((value("a"), 1, 4),)), spot("h")
        self.shows(made, edit, ("spot", h, row, ("cost",), None))
        self.shows(made, edit, ("cost",), False)
        self.shows(made, (), ("cost",))
        self.shows(made, (), ("cost", 0), False)
        self.shows(made, (), ("spot", h, ("cost",), ("cost",), None))
        self.shows(made, (), row, False)
        # For None nothing costs too much.
        self.holds(made, edit, ("spot", h, row, ("cost",), None), False)

    def test_gone(self):
        made = project("template t { a: 1 } template w = t { a: 2 } document { u: new w }")
        edit = (("set", ("main", ("u", "a")), 1),)
        w, u, t = ("main", "w", ("a",)), spot("u", "a"), ("main", "t", ("a",))
        row = ("row", ((value("u", "a"), 1, 2),))
        self.shows(made, edit, ("spot", w, ("spot", u, row, ("cost",), None), ("cost",), ("cost",)))
        self.shows(made, edit, ("spot", w, ("spot", u, row, ("cost",), None), ("cost",), None), False)
        self.shows(made, edit, ("spot", w, ("spot", u, row, ("cost",), ("cost",)), ("cost",), ("cost",)), False)
        # Behind what is gone the next level tells.
        five = (("set", ("main", ("u", "a")), 5),)
        gone = ("spot", u, ("spot", t, ("row", ((value("u", "a"), 1, 3),)), ("cost",), None), ("cost",), None)
        self.shows(made, five, ("spot", w, ("spot", u, ("row", ((value("u", "a"), 1, 2),)), ("cost",), None), ("cost",), gone), True, remove=1)
        self.shows(made, five, ("spot", w, ("spot", u, ("row", ((value("u", "a"), 1, 2),)), ("cost",), None), ("cost",), ("row", ((value("u", "a"), 1, 3),))), False, remove=1)


class Values(unittest.TestCase):
    """Tuples of a plan and a paper, and of a word and a paper."""

    def test_what_is_not_of_the_form(self):
        made, edit = Project((PEOPLE,)), drag
        led = lead(made, edit)
        good = (led.plan, led.paper)
        bad = [led.plan, led.paper, (led.plan,), (led.plan, led.paper, ()), [led.plan, led.paper], (list(led.plan), led.paper), (led.plan, list(led.paper)),
               (led.plan, led.paper[0]), (led.plan, led.paper[:1]), (led.plan, led.paper + ((),)), (led.paper, led.plan), (led.plan, led.paper[::-1]), ((), led.paper),
               (led.plan[:1], led.paper), (led.plan[1:], led.paper), (led.plan[::-1], led.paper), (led.plan, (led.paper[0], ())), (led.plan, (None, led.paper[1]))]
        self.assertIs(shows_led(made, edit, good), True)
        for other in bad + ANY:
            before = copy.deepcopy(other)
            self.assertIs(shows_led(made, edit, other), False)
            self.assertIs(shows_refused(made, edit, other), False)
            self.assertEqual(other, before)
        for word in ("spots", "order", "shown", "locked", "", None):
            for other in bad[:4] + ANY:
                self.assertIs(shows_refused(made, edit, (word, other)), False)

    def test_other_plans(self):
        made, edit = Project((PEOPLE,)), drag
        led = lead(made, edit)
        owner = ("set", ("main", "tasks", (2, "owner")), "Bob")
        for serials, expected in [((0, 2, 1), True), ((2, 0, 1), True), ((2, 1, 0), False), ((1, 2, 0), False), ((0, 1, 2), False), ((0, 2), False)]:
            plan = (("order", "main", "tasks", serials), owner)
            self.assertIs(shows_led(made, edit, (plan, led.paper)), expected, serials)
        for plan in [(owner,), (("order", "main", "tasks", (0, 2, 1)),), (("order", "main", "people", (1, 0)), ("order", "main", "tasks", (0, 2, 1)), owner),
                     (("order", "main", "tasks", (0, 2, 1)), owner, ("set", ("main", "tasks", (2, "title")), "z")), (("order", "main", "tasks", (0, 2, 1)), owner[:2] + ("Bo",)),
                     (("order", "main", "tasks", (0, 2, 1)), owner, ("set", ("main", "person", ("name",)), "z"))]:
            self.assertIs(shows_led(made, edit, (plan, led.paper)), False, plan)

    def test_another_literal_that_does_it_as_well(self):
        both = project(PEOPLE[1], other="import main document { all: for t in tasks give card { title: t.title } }")
        edit = (("take", A, 2),)
        led = lead(both, edit)
        for owner, expected in (("", True), ("Zoe", True), ("Ann", False), ("Bob", False)):
            plan = (("set", ("main", "tasks", (2, "owner")), owner),)
            self.assertIs(shows_led(both, edit, (plan, led.paper)), expected)

    def test_plans_that_cost_more(self):
        made, edit = Project((THREE,)), (("set", ("main", ("u", "a")), 5), ("set", ("main", ("v", "a")), 5))
        led = lead(made, edit)
        dear = (("set", spot("u", "a"), 5), ("set", spot("v", "a"), 5))
        self.assertIs(shows_led(made, edit, (dear, led.paper)), False)
        cheap = lead(made, edit, change=9)
        self.assertEqual(cheap.plan, dear)
        self.assertIs(shows_led(made, edit, (dear, cheap.paper), change=9), True)
        self.assertIs(shows_led(made, edit, (led.plan, cheap.paper), change=9), False)
        self.assertIs(shows_led(made, edit, (led.plan, led.paper), change=9), False)

    def test_another_wish_another_project_other_serials(self):
        made, edit = Project((PEOPLE,)), drag
        led = lead(made, edit)
        value_ = (led.plan, led.paper)
        for other in ((), drag[:0] + (("carry", A, 2, B, 1),), drag + (("set", ("main", ("people", 0, "name")), "An"),), (("take", A, 2),)):
            self.assertIs(shows_led(made, other, value_), False)
        self.assertIs(shows_led(project(PEOPLE[1].replace('title: "c"', 'title: "d"')), edit, value_), True)
        self.assertIs(shows_led(project(PEOPLE[1].replace('{ title: "c" owner: "Ann" }', '{ title: "c" owner: "Ann" } { title: "d" owner: "" }')), edit, value_), False)
        again = lead(made, (("take", ALL, 0),)).project
        self.assertIs(shows_led(again, (), ((), lead(again, ()).paper)), True)
        self.assertIs(shows_led(project(again["main"]), (), ((), lead(again, ()).paper)), False)

    def test_locked(self):
        made = project(lib="template t { a: 3 }", main="import lib document { u: new t v: new t }")
        edit = (("set", ("main", ("u", "a")), 5), ("set", ("main", ("v", "a")), 5))
        led = lead(made, edit)
        self.assertEqual(led.plan, (("set", ("lib", "t", ("a",)), 5),))
        self.assertIs(shows_led(made, edit, (led.plan, led.paper), locked=("lib",)), False)
        locked = lead(made, edit, locked=("lib",))
        self.assertIs(shows_led(made, edit, (locked.plan, locked.paper), locked=("lib",)), True)
        self.assertIs(shows_led(made, edit, (locked.plan, locked.paper)), False)

    def test_new_items(self):
        made = Project((PEOPLE,))
        edit = (("put", A, 1, 3, (("title", "d"),)),)
        led = lead(made, edit)
        self.assertIs(shows_led(made, edit, (led.plan, led.paper)), True)
        order = [deed for deed in led.plan if deed[0] == "order"][0]
        sets = tuple(deed for deed in led.plan if deed[0] == "set")
        for serials, expected in [((0, 3, 1, 2), True), ((0, 1, 3, 2), True), ((3, 0, 1, 2), False), ((0, 1, 2, 3), False), ((0, 3, 2, 1), False), ((0, 3, 2), False)]:
            self.assertIs(shows_led(made, edit, ((order[:3] + (serials,),) + sets, led.paper)), expected, serials)
        self.assertIs(shows_led(made, edit, ((order,) + sets[:-1], led.paper)), False)
        self.assertIs(shows_led(made, edit, ((order,) + sets[:-1] + (sets[-1][:2] + ("x",),), led.paper)), False)

    def test_refusals(self):
        text = "list l (a: number, b: number, c: number) [ { a: 1 b: 0 c: 1 } { a: 1 b: 1 c: 0 } { a: 0 b: 1 c: 1 } ] template t { } " \
               "document { all: for x in l give t a: for x in l where x.a = 1 give t b: for x in l where x.b = 1 give t c: for x in l where x.c = 1 give t }"
        made = project(text)
        a, b, c, every = [("main", (name,)) for name in ("a", "b", "c", "all")]
        circle = (("carry", c, 2, c, 0),)
        two, three = ((0, every), (2, c)), ((0, a), (1, b), (2, c))
        for paper in (two[:1] + two[1:], two[::-1]):
            self.assertIs(shows_refused(made, circle, ("order", paper)), False)
        rest = project(text.replace("all: for x in l give t ", ""))
        for paper in (three, three[1:] + three[:1], three[2:] + three[:2]):
            self.assertIs(shows_refused(rest, circle, ("order", paper)), True)
            self.assertIs(shows_refused(rest, circle, ("order", list(paper))), False)
            self.assertIs(shows_refused(rest, circle, ("order", paper * 2)), False)
            self.assertIs(shows_refused(rest, circle, ("order", paper[::-1])), False)
            self.assertIs(shows_refused(rest, circle, ("order", paper[:2])), False)
            self.assertIs(shows_refused(rest, circle, ("spots", paper)), False)
            self.assertIs(shows_refused(rest, (), ("order", paper)), False)
            self.assertIs(shows_refused(rest, circle, ("order", paper), locked=("main",)), False)
            self.assertIs(shows_refused(rest, circle, ["order", paper]), False)
        self.assertIs(shows_refused(rest, circle, ("order", ((False, a), (True, b), (2, c)))), False)
        self.assertIs(shows_refused(rest, circle, ("order", ((0, a), (1, b), (2, ("main", ["c"]))))), False)
        self.assertIs(shows_refused(rest, circle, ("locked", ("main", "l")), locked=("main",)), True)
        for paper in (("main", "k"), ("lib", "l"), ["main", "l"], ("main",), ("main", "l", 0), None, ()):
            self.assertIs(shows_refused(rest, circle, ("locked", paper), locked=("main",)), False)
        self.assertIs(shows_refused(rest, circle, ("locked", ("main", "l"))), False)
        take = (("take", every, 1),)
        self.assertIs(shows_refused(made, take, ("shown", (every, 1))), True)
        for paper in ((every, 0), (every, True), (a, 1), (every, 1, 0), [every, 1], (1, every), every, None, ((list(every)), 1)):
            self.assertIs(shows_refused(made, take, ("shown", paper)), False)
        self.assertIs(shows_refused(made, take, ("spots", ("shown", (every, 1)))), False)

    def test_circles_two_long(self):
        made = project("list l (a: number) [ { a: 1 } { a: 1 } { a: 1 } ] template t { } document { a: for x in l give t b: for x in l give t c: for x in l where x.a = 1 give t }")
        a, b, c = [("main", (name,)) for name in "abc"]
        edit = (("carry", a, 1, a, 0),)
        good = [((0, b), (1, a)), ((0, c), (1, a)), ((1, a), (0, b)), ((1, a), (0, c))]
        for paper in good:
            self.assertIs(shows_refused(made, edit, ("order", paper)), True)
        for paper in [((0, a), (1, a)), ((0, b), (1, b)), ((0, b),), (), ((0, b), (1, a), (0, b), (1, a)), ((1, b), (2, a)), ((0, ("main", ("d",))), (1, a)), ((0, b), (2, a))]:
            self.assertIs(shows_refused(made, edit, ("order", paper)), False)

    def test_what_lead_tells_with_one_thing_otherwise(self):
        """The plan and the chains are looked at as they are, too; a change that the document lets is told by its words."""
        chance = random.Random(4)
        for made, edit in [(Project((PEOPLE,)), drag), (Project((THREE,)), (("set", ("main", ("u", "a")), 5),)), (Project((PEOPLE,)), (("take", ALL, 0),))]:
            led = lead(made, edit)
            for _ in range(400):
                other = otherwise((led.plan, led.paper), chance)
                if not shows_led(made, edit, other):
                    continue
                plan, paper = other
                self.assertEqual(cost_of(made, plan), led.cost)
                self.assertEqual(len(paper[1]), len(chains(made, edit)))


def widened(tree, wish, chance):
    """A tree that decides more than it must, perhaps something twice."""
    if type(tree) is not tuple or tree[0] not in ("cost", "spot", "way", "field", "row", "strings", "forced"):
        return tree
    begin = {"spot": 2, "way": 3, "field": 3}.get(tree[0], len(tree))
    tree = tree[:begin] + tuple(widened(part, wish, chance) for part in tree[begin:])
    if wish.prices and chance.random() < 0.1:
        one = chance.choice(sorted(wish.prices))
        return ("spot", one, tree, tree, tree if "gone" in wish.prices[one] else None)
    if wish.all_ways() and chance.random() < 0.1:
        key, literal = chance.choice(sorted(wish.all_ways(), key=repr))
        return ("way" if len(key) == 2 else "field", key, literal, tree, tree)
    if tree[0] == "row" and chance.random() < 0.3:
        return ("row", tuple((name, numerator + denominator, denominator) for name, numerator, denominator in tree[1] if numerator != -denominator))
    return tree


class ByChance(unittest.TestCase):
    """Papers of wishes by chance, as they are and otherwise, told a second way."""

    def check(self, world, made, edit, locked, costs, chance, seen):
        wish = told(world, made, edit, locked, costs)
        try:
            led = lead(made, edit, locked=locked, **costs)
            tree, bound = led.paper[0], cost_of(made, tuple(deed for deed in led.plan if deed[0] != "order" and deed[1] in wish.prices), **costs)
        except TooLarge:
            return
        except Refused as error:
            if error.word != "spots":
                return
            tree, bound, led = error.paper, None, None
        self.assertTrue(tree_holds(wish, tree, bound), (made.files, edit))
        for _ in range(14):
            other = otherwise(tree, chance) if chance.random() < 0.7 else widened(tree, wish, chance)
            before = copy.deepcopy(other)
            expected = tree_holds(wish, other, bound)
            if led is None:
                found = shows_refused(made, edit, ("spots", other), locked=locked, **costs)
            else:
                found = shows_led(made, edit, (led.plan, (other, led.paper[1])), locked=locked, **costs)
            self.assertIs(found, expected, (made.files, edit, other))
            self.assertEqual(other, before)
            for word in ("way", "field", "forced", "strings", "row"):
                seen[word] = seen.get(word, 0) + (word in repr(other) and other != tree)
            seen[expected] = seen.get(expected, 0) + (other != tree)

    def test_worlds(self):
        chance, seen = random.Random(1), {}
        for world, made in small_worlds(chance, 110):
            documents = {file: visible(world, owner) for file, owner in world.documents.items()}
            ground = Ground(made, documents, list(world.lists))
            for edit in (reachable(world, made, chance), somewhere(made, chance), sound_edit(chance, ground, 4)[0]):
                self.check(world, made, edit, chance.choice(((), (), ("main",), ("lib",))), {name: chance.randrange(1, 10) for name in COSTS}, chance, seen)
        self.assertGreater(seen[True], 40)

    def test_patterns(self):
        chance, seen = random.Random(2), {}
        for _ in range(4):
            for text in patterns(chance):
                world, made = Written(main=text), project(text)
                ground = Ground(made, {"main": visible(world, world.documents["main"])}, list(world.lists))
                edits = [reachable(world, made, chance), somewhere(made, chance)]
                if world.lists:
                    edits += [sound_edit(chance, ground, 3)[0] for _ in range(3)]
                for edit in edits:
                    self.check(world, made, edit, (), {}, chance, seen)
        self.assertGreater(min(seen.values()), 20, seen)


if __name__ == "__main__":
    unittest.main()
