"""Point 5: places, levels, definitions, and what is none of these."""

import unittest

from helping import ANY, Refusing, project
from sourceback.errors import NoFile, NoPlace, NoSpot
from sourceback.places import definition, hidden_places, levels, places, rows_places
from sourceback.values import labelled, output, shown, value_of

LIB = """
list goods (p: number, t: text) [ { p: 1 t: "a" } { t: "b" p: -0 } { p: -3 t: "a" } ]
template line { size: 2 let name: "x" }
template thick = line { size: 5 }
template box { width: 40 edge: new thick { name: "e" } let inner: new line area: 2 * width + edge.size }
template wide = box { width: 60 edge: { size: 3 + width } }
template shelf { want: "a" rows: for g in goods where g.t = want give wide { width: g.p } }
template tall = shelf { want: "b" }
"""
MAIN = """
import lib # the rest
list none (q: text) [ ]
document {
    one: new shelf
    two: new tall { want: if one.want = "a" then one.want else "c" }
    let veil: new shelf
    all: for s in goods give tall { want: s.t }
    empty: for n in none give line
    last: - 2 * two . want . nothing
}
""".replace("    last: - 2 * two . want . nothing\n", "    last: 3 - 2 * box . edge . size box: new wide { edge: { size: 1 } }\n")


class Listed(unittest.TestCase):
    def setUp(self):
        self.project = project(MAIN, lib=LIB, other="document { z: 1 }")

    def box(self, *path):
        return [("main", path + rest) for rest in (("area",), ("edge", "size"), ("width",))]

    def hidden_box(self, *path):
        return [("main", path + rest) for rest in (("edge", "name"), ("inner", "name"), ("inner", "size"))]

    def test_places(self):
        expected = [("other", ("z",)), ("main", ("last",)), ("main", ("one", "want")), ("main", ("two", "want"))]
        expected += self.box("box") + self.box("one", "rows", 0) + self.box("one", "rows", 2)
        expected += self.box("two", "rows", 0) + self.box("two", "rows", 2)
        for outer, inner in ((0, (0, 2)), (1, (1,)), (2, (0, 2))):
            expected.append(("main", ("all", outer, "want")))
            for serial in inner:
                expected += self.box("all", outer, "rows", serial)
        self.assertEqual(places(self.project), tuple(sorted(expected)))

    def test_hidden_places(self):
        expected = self.hidden_box("box") + [("main", ("veil", "want"))]
        for rows in (("one", "rows"), ("two", "rows"), ("veil", "rows"), ("all", 0, "rows"), ("all", 2, "rows")):
            expected += self.hidden_box(*rows, 0) + self.hidden_box(*rows, 2)
        expected += self.hidden_box("all", 1, "rows", 1) + self.box("veil", "rows", 0) + self.box("veil", "rows", 2)
        self.assertEqual(hidden_places(self.project), tuple(sorted(expected)))

    def test_rows_places(self):
        paths = [("one", "rows"), ("two", "rows"), ("all",), ("empty",)] + [("all", n, "rows") for n in range(3)]
        self.assertEqual(rows_places(self.project), tuple(sorted(("main", path) for path in paths)))

    def test_projects_without_any(self):
        for texts in ({"a": ""}, {"a": "document { }"}, {"a": "template t { b: 1 }"}):
            for ask in (places, hidden_places, rows_places):
                self.assertEqual(ask(project(**texts)), ())

    def test_by_name(self):
        for ask in (places, hidden_places, rows_places):
            self.assertEqual(ask(project=self.project), ask(self.project))

    def test_places_follow_the_serials(self):
        made = project("list l (p: number) [ { p: 1 } { p: 2 } ] template t { a: 0 } document { r: for g in l give t }")
        text = made["main"]
        made = made.written("main", text.replace(" { p: 2 }", "")).written("main", text)
        self.assertEqual(places(made), (("main", ("r", 0, "a")), ("main", ("r", 2, "a"))))
        self.assertEqual(definition(made, ("main", "l", (2, "p"))), ("literal", 2))
        with self.assertRaises(NoSpot):
            definition(made, ("main", "l", (1, "p")))
        with self.assertRaises(NoPlace):
            levels(made, ("main", ("r", 1, "a")))
        self.assertEqual(output(made, "main"), (("r", ((("a", 0),), (("a", 0),))),))
        self.assertEqual(labelled(made, "main"), (("r", ((0, (("a", 0),)), (2, (("a", 0),)))),))


class Levels(unittest.TestCase):
    def setUp(self):
        self.project = project(MAIN, lib=LIB)

    def check(self, path, *spots):
        found = levels(self.project, ("main", path))
        self.assertEqual(found, spots)

    def test_the_owners_follow_the_four_steps(self):
        self.check(("last",), ("main", "", ("last",)))
        self.check(("two", "want"), ("main", "", ("two", "want")), ("lib", "tall", ("want",)), ("lib", "shelf", ("want",)))
        self.check(("box", "edge", "size"), ("main", "", ("box", "edge", "size")), ("lib", "wide", ("edge", "size")),
                   ("lib", "box", ("edge", "size")), ("lib", "thick", ("size",)), ("lib", "line", ("size",)))

    def test_hidden_places_have_levels_too(self):
        self.check(("box", "inner", "size"), ("main", "", ("box", "inner", "size")), ("lib", "wide", ("inner", "size")),
                   ("lib", "box", ("inner", "size")), ("lib", "line", ("size",)))
        self.check(("veil", "want"), ("main", "", ("veil", "want")), ("lib", "shelf", ("want",)))

    def test_rows_of_a_loop_of_its_own_and_of_one_in_a_template(self):
        rest = (("lib", "wide", ("width",)), ("lib", "box", ("width",)))
        self.check(("one", "rows", 2, "width"), ("lib", "shelf", ("rows", "*", "width")), *rest)
        self.check(("two", "rows", 0, "width"), ("lib", "shelf", ("rows", "*", "width")), *rest)
        self.check(("all", 1, "want"), ("main", "", ("all", "*", "want")), ("lib", "tall", ("want",)),
                   ("lib", "shelf", ("want",)))
        self.check(("all", 1, "rows", 1, "edge", "name"), ("lib", "shelf", ("rows", "*", "edge", "name")),
                   ("lib", "wide", ("edge", "name")), ("lib", "box", ("edge", "name")), ("lib", "thick", ("name",)),
                   ("lib", "line", ("name",)))

    def test_a_long_row_of_derived_templates(self):
        words = [a + b for a in "bcdefghijk" for b in "bcdeghjk"]
        parts = ["template bb { x: 7 }"] + [f"template {w} = {v} {{ }}" for v, w in zip(words, words[1:])]
        made = project(" ".join(parts) + f" document {{ u: new {words[-1]} }}")
        found = levels(made, ("main", ("u", "x")))
        self.assertEqual(found, (("main", "", ("u", "x")),) + tuple(("main", w, ("x",)) for w in reversed(words)))
        self.assertEqual(value_of(made, ("main", ("u", "x"))), 7)

    def test_by_name(self):
        self.assertEqual(levels(project=self.project, place=("main", ("last",))), (("main", "", ("last",)),))


class Definitions(unittest.TestCase):
    def setUp(self):
        self.project = project(MAIN, lib=LIB)

    def check(self, spot, expected):
        self.assertEqual(definition(self.project, spot), expected)

    def test_literals(self):
        self.check(("lib", "box", ("width",)), ("literal", 40))
        self.check(("lib", "line", ("name",)), ("literal", "x"))
        self.check(("lib", "box", ("edge", "name")), ("literal", "e"))
        self.check(("main", "", ("box", "edge", "size")), ("literal", 1))

    def test_expressions_have_single_blanks(self):
        self.check(("lib", "box", ("area",)), ("expression", "2 * width + edge . size"))
        self.check(("lib", "wide", ("edge", "size")), ("expression", "3 + width"))
        self.check(("main", "", ("last",)), ("expression", "3 - 2 * box . edge . size"))
        self.check(("main", "", ("two", "want")), ("expression", 'if one . want = "a" then one . want else "c"'))
        self.check(("lib", "shelf", ("rows", "*", "width")), ("expression", "g . p"))
        self.check(("main", "", ("all", "*", "want")), ("expression", "s . t"))

    def test_tokens_of_expressions(self):
        made = project('document{a:-b#x\n+ 2*b -  3 b:-0 t:"a b#" c:if t="a b#"then-3 else-2*b d:-7}')
        for name, expected in (("a", ("expression", "- b + 2 * b - 3")), ("b", ("literal", 0)), ("t", ("literal", "a b#")),
                               ("c", ("expression", 'if t = "a b#" then - 3 else - 2 * b')), ("d", ("literal", -7))):
            self.assertEqual(definition(made, ("main", "", (name,))), expected)

    def test_none(self):
        self.check(("lib", "wide", ("area",)), None)
        self.check(("lib", "tall", ("want",)), ("literal", "b"))
        self.check(("main", "", ("one", "want")), None)
        self.check(("main", "", ("veil", "want")), None)
        self.check(("lib", "box", ("inner", "name")), None)
        self.check(("lib", "shelf", ("rows", "*", "edge", "size")), None)
        self.check(("lib", "box", ("edge", "size")), None)
        self.check(("main", "", ("empty", "*", "size")), None)

    def test_templates_that_no_document_uses(self):
        made = project("template line { a: 1 } template box { l: new line { a: 3 } m: new line }")
        self.assertEqual(definition(made, ("main", "box", ("l", "a"))), ("literal", 3))
        self.assertIsNone(definition(made, ("main", "box", ("m", "a"))))

    def test_the_literals_of_items(self):
        for serial, p, t in ((0, 1, "a"), (1, 0, "b"), (2, -3, "a")):
            self.check(("lib", "goods", (serial, "p")), ("literal", p))
            self.check(("lib", "goods", (serial, "t")), ("literal", t))

    def test_by_name(self):
        self.assertEqual(definition(project=self.project, spot=("lib", "box", ("width",))), ("literal", 40))


class Nothing(Refusing):
    """Values that are no place, no rows place, no spot."""

    def setUp(self):
        self.project = project(MAIN, lib=LIB)

    def changed(self, path):
        """Paths that are near this one."""
        parts = ["last", "one", "rows", "width", "edge", "*", "p", 0, 1, 2, 3, -1, True, False, None, "0", (), [], {}, ("a",)]
        for at in range(len(path) + 1):
            yield path[:at]
            for part in parts:
                yield path[:at] + (part,) + path[at:]
                yield path[:at] + (part,) + path[at + 1:]
        yield list(path)
        yield path * 2
        yield tuple(reversed(path))

    def near(self, values, all_of_them):
        """Values that are near these, but none of them all."""
        exact = {repr(value) for value in all_of_them}
        for value in values:
            found = [value[:-1] + (path,) for path in self.changed(value[-1])]
            found += [(other,) + value[1:] for other in ("lib", "main", "nofile", "", None, 0, ("main",), ["main"], {})]
            found += [value[:-1], value + value[-1:], list(value), value[-1], (value,), {"a": value}]
            if len(value) == 3:
                owners = ("", "box", "shelf", "goods", "none", "nothing", None, 0, True, (), [], {}, ["box"], ("box",))
                found += [(value[0], other, value[2]) for other in owners]
            for one in found:
                if repr(one) not in exact:
                    yield one

    def test_no_place(self):
        found = places(self.project) + hidden_places(self.project)
        more = [("main", ()), ("main", ("one",)), ("main", ("box", "edge")), ("main", ("one", "rows", 0))]
        for value in ANY + more + list(rows_places(self.project)) + list(self.near(found[:12] + found[-40:], found)):
            self.refused(NoPlace, levels, value)
            self.refused(NoPlace, value_of, value)

    def test_no_rows_place(self):
        found = rows_places(self.project)
        hidden = [("main", ("veil", "rows"))]
        for value in ANY + hidden + list(places(self.project)) + list(self.near(found, found)):
            self.refused(NoPlace, shown, value)

    def test_no_spot(self):
        found = []
        for place in places(self.project) + hidden_places(self.project):
            found += levels(self.project, place)
        found += [("lib", "goods", (serial, field)) for serial in range(3) for field in "pt"]
        # Spots that no place has: of rows that are never shown, of templates by themselves.
        found += [("main", "", ("empty", "*", "size")), ("main", "", ("empty", "*", "name"))]
        found += [("lib", "tall", ("want",)), ("lib", "thick", ("size",)), ("lib", "thick", ("name",))]
        found = sorted(set(found), key=repr)
        for spot in found:
            definition(self.project, spot)
        for value in ANY + list(self.near(found, found)):
            self.refused(NoSpot, definition, value)

    def test_the_form_alone_does_not_make_a_spot(self):
        for spot in (("lib", "box", ("width",)), ("lib", "goods", (0, "p")), ("main", "", ("last",))):
            for at in range(3):
                for other in (None, 0, True, [], {}, list(spot[at]), (spot[at],), {spot[at]: 1}):
                    self.refused(NoSpot, definition, spot[:at] + (other,) + spot[at + 1:])

    def test_spots_that_the_first_rule_excepts(self):
        for value in (("main", "", ("one", "rows", "*", "width")), ("lib", "tall", ("rows", "*", "width")),
                      ("main", "", ("all", "*", "rows", "*", "width")), ("main", "", ("veil", "rows", "*", "width"))):
            self.refused(NoSpot, definition, value)

    def test_owners(self):
        for value in (("main", "box", ("width",)), ("lib", "", ("last",)), ("lib", "none", ("q",)), ("main", "goods", (0, "p")),
                      ("lib", "goods", (3, "p")), ("lib", "goods", (0, "q")), ("lib", "goods", (False, "p")),
                      ("lib", "goods", ("p", 0)), ("lib", "goods", (0,)), ("lib", "goods", ("p",)), ("lib", "goods", (0, "p", "p")),
                      ("main", "none", (0, "q")), ("lib", "nothing", ("width",)), ("lib", "box", ("edge",)),
                      ("lib", "shelf", ("rows",)), ("lib", "shelf", ("rows", "*")), ("lib", "shelf", ("rows", "width")),
                      ("lib", "shelf", ("rows", 0, "width")), ("lib", "box", ()), ("lib", "box", ("edge", "*", "size"))):
            self.refused(NoSpot, definition, value)

    def test_files_without_a_document(self):
        for value in ANY + ["lib", "nofile", ("main",), ["main"]]:
            self.refused(NoFile, output, value)
            self.refused(NoFile, labelled, value)


class Values(unittest.TestCase):
    def setUp(self):
        self.project = project(MAIN, lib=LIB)

    def value(self, *path):
        return value_of(self.project, ("main", path))

    def test_values(self):
        self.assertEqual(self.value("one", "want"), "a")
        self.assertEqual(self.value("two", "want"), "a")
        self.assertEqual(self.value("veil", "want"), "a")
        self.assertEqual(self.value("all", 1, "want"), "b")
        self.assertEqual(self.value("box", "edge", "size"), 1)
        self.assertEqual(self.value("box", "area"), 121)
        self.assertEqual(self.value("last"), 1)
        self.assertEqual(self.value("one", "rows", 2, "width"), -3)
        self.assertEqual(self.value("one", "rows", 2, "edge", "size"), 0)
        self.assertEqual(self.value("one", "rows", 2, "edge", "name"), "e")
        self.assertEqual(self.value("one", "rows", 2, "area"), -6)

    def test_evaluation_is_late(self):
        made = project("template t { a: 1 b: 2 * a c: b } template w = t { b: a + 10 } "
                       "document { u: new w { a: x } x: v.c v: new t { a: 5 } }")
        self.assertEqual(output(made, "main"), (("u", (("a", 10), ("b", 20), ("c", 20))), ("x", 10),
                                                ("v", (("a", 5), ("b", 10), ("c", 10)))))

    def test_choices(self):
        for n, expected in ((1, 5), (2, -4), (-0, -4)):
            made = project(f"document {{ n: {n} a: if n = 1 then 5 else 2 * m - 8 m: 2 }}")
            self.assertEqual(value_of(made, ("main", ("a",))), expected)

    def test_a_value_that_is_read_over_many_others(self):
        words = [a + b for a in "abcdefghijklmnopq" for b in "abcdefghijklmnopq"]
        words = [word for word in words if word not in ("if", "in")]
        chain = " ".join(f"{first}: {then} + 1" for first, then in zip(words, words[1:]))
        made = project(f"document {{ {chain} {words[-1]}: 0 }}")
        self.assertEqual(value_of(made, ("main", (words[0],))), len(words) - 1)
        self.assertEqual(output(made, "main")[0], (words[0], len(words) - 1))

    def test_shown(self):
        self.assertEqual(shown(self.project, ("main", ("all",))), (0, 1, 2))
        self.assertEqual(shown(self.project, ("main", ("one", "rows"))), (0, 2))
        self.assertEqual(shown(self.project, ("main", ("all", 1, "rows"))), (1,))
        self.assertEqual(shown(self.project, ("main", ("empty",))), ())
        self.assertEqual(shown(project=self.project, rows_place=("main", ("empty",))), ())
        made = project("list l (p: number) [ { p: 1 } { p: 2 } { p: 1 } ] template t { } "
                       "document { a: for g in l where g.p = 1 give t b: for g in l where g.p = 7 give t }")
        self.assertEqual(shown(made, ("main", ("a",))), (0, 2))
        self.assertEqual(shown(made, ("main", ("b",))), ())
        self.assertEqual(output(made, "main"), (("a", ((), ())), ("b", ())))
        self.assertEqual(labelled(made, "main"), (("a", ((0, ()), (2, ()))), ("b", ())))

    def test_by_name(self):
        self.assertEqual(value_of(project=self.project, place=("main", ("last",))), 1)
        self.assertEqual(output(project=self.project, file="main"), output(self.project, "main"))
        self.assertEqual(labelled(project=self.project, file="main"), labelled(self.project, "main"))

    def test_equal_calls_return_equal_results(self):
        other = project(MAIN, lib=LIB)
        for ask in (places, hidden_places, rows_places):
            self.assertEqual(ask(self.project), ask(other))
            self.assertEqual(ask(self.project), ask(self.project))
        self.assertEqual(labelled(self.project, "main"), labelled(other, "main"))


if __name__ == "__main__":
    unittest.main()
