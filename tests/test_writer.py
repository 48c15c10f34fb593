"""Point 10: what a plan makes of the texts, sign for sign."""

import random
import unittest

from helping import project, spaced
from planning import random_plan, second_text
from randomly import sound
from sourceback.files import tokens
from sourceback.places import definition, places
from sourceback.plans import made
from sourceback.projects import Project
from sourceback.values import output

HEAD = 'template line { size: 2 tone: "x" } template box { width: 40 depth: 1 edge: new line name: "n" far: new line } template wide = box { width: 60 } '


class Examples(unittest.TestCase):
    """The body of second is told; the template is wide."""

    def becomes(self, use, deeds, expected):
        text = HEAD + "document { first: new box second: new wide" + use + " }"
        plan = tuple(sorted((word, ("main", "", ("second",) + path)) + tuple(rest) for word, path, *rest in deeds))
        self.assertEqual(made(project(text), plan)["main"], HEAD + "document { first: new box second: new wide" + expected + " }")

    def test_of_the_document(self):
        width = ("set", ("width",), 70)
        self.becomes(" # note\n", [width], " { width: 70 } # note\n")
        self.becomes(" { edge: { size: 3 } }", [width], " { edge: { size: 3 } width: 70 }")
        self.becomes(" { edge: { size: 3 } }", [("gone", ("edge", "size"))], " { edge: { } }")
        self.becomes(" { width: 3 # keep\n depth: 4 }", [("gone", ("depth",))], " { width: 3 # keep\n }")
        text = "list l (n: number) [ { n: 1 } # one\n { n: 2 } ]"
        self.assertEqual(made(project(text), (("order", "main", "l", (1, 0)),))["main"],
                         "list l (n: number) [ # one\n { n: 2 } { n: 1 } ]")

    def test_what_was_added_and_is_gone_again(self):
        found = project(HEAD + "document { a: new wide }")
        spot = ("main", "", ("a", "width"))
        once = made(found, (("set", spot, 1),))
        self.assertEqual(once["main"], HEAD + "document { a: new wide { width: 1 } }")
        self.assertEqual(made(once, (("gone", spot),))["main"], HEAD + "document { a: new wide { } }")

    def test_literals_in_the_place_of_their_tokens(self):
        for old, new in (("3", "70"), ("-3", "70"), ("- 3", "70"), ("-\n 3", "70"), ("- # three\n3", "70"), ("-0", "70"), ("3", "-70")):
            self.becomes(" { width: " + old + "# x\n}", [("set", ("width",), int(new))], " { width: " + new + "# x\n}")
            self.becomes("{width:" + old + "depth:4}", [("set", ("width",), int(new))], "{width:" + new + "depth:4}")
        self.becomes(' {name:"a b"edge:{tone:""}}', [("set", ("name",), ""), ("set", ("edge", "tone"), "# }")], ' {name:""edge:{tone:"# }"}}')

    def test_entries_go(self):
        gone = [("gone", ("width",))]
        for old, new in [(" { width: 3 }", " { }"), ("{width:3}", "{}"), (" {\n  width: 3\n}", " {\n}"), (" { width # w\n: # v\n 3 # u\n }", " { # u\n }"),
                         (" { # a\n # b\n\n  width: 3 }", " { # a\n # b\n }"), (" { #\nwidth: 3 }", " { #\n }"),
                         (" {depth: 4 width: 3 name: \"\" }", " {depth: 4 name: \"\" }"), (" {depth: 4 width: 3name: \"\" }", " {depth: 4name: \"\" }"),
                         (" { ## x # y\n  # \" { width: 9\n width: -\n3# z\n}", " { ## x # y\n  # \" { width: 9\n# z\n}")]:
            self.becomes(old, gone, new)
        both = gone + [("gone", ("depth",))]
        for old, new in [(" { width: 3 depth: 4 }", " { }"), ("{width:3depth:4}", "{}"), (" { width: 3 # a\n depth: 4 # b\n }", " { # a\n # b\n }"),
                         (" {\n  depth: 4\n  width: 3\n  name: \"n\"\n}", " {\n  name: \"n\"\n}")]:
            self.becomes(old, both, new)

    def test_one_blank_stays_between_letters(self):
        text = 'template t { a: 1 b: 2 c: 3 d: "" } document { k: 1 u: new t {'
        gone = (("gone", ("main", "", ("u", "b"))),)
        both = gone + (("gone", ("main", "", ("u", "c"))),)
        for plan, old, new in [(gone, "a:k b:4d:\"\"", "a:k d:\"\""), (gone, "a:k\nb:4 d:\"\"", "a:k d:\"\""), (gone, "a:k#\nb:4d:\"\"", "a:k#\nd:\"\""),
                               (gone, "a:2*k b:4}", "a:2*k}"), (gone, "a:if k=1 then 1 else k b:4c:k", "a:if k=1 then 1 else k c:k"),
                               (gone, "a:5b:4c:k", "a:5c:k"), (both, "a:k b:4c:5d:\"\"", "a:k d:\"\""), (both, "a:k b:4#\nc:5d:\"\"", "a:k#\nd:\"\""),
                               (both, "b:4c:5d:\"\"", "d:\"\""), (both, "b:4a:k c:5d:\"\"", "a:k d:\"\"")]:
            tail = "" if old.endswith("}") else "}"
            found = project(text + old + tail + "}")
            self.assertEqual(made(found, plan)["main"], text + new + tail + "}")

    def test_entries_come(self):
        width, depth, size, tone = ("set", ("width",), -1), ("set", ("depth",), 2), ("set", ("edge", "size"), 3), ("set", ("edge", "tone"), "t")
        far = ("set", ("far", "size"), 4)
        for old, deeds, new in [
                ("", [width], " { width: -1 }"), ("", [width, depth], " { depth: 2 width: -1 }"), ("", [size], " { edge: { size: 3 } }"),
                ("", [width, tone, far, size], ' { edge: { size: 3 tone: "t" } far: { size: 4 } width: -1 }'),
                (" { }", [width], " { width: -1 }"), ("{}", [width], "{ width: -1 }"), (" {\n}", [width], " { width: -1\n}"),
                ("{# x\n}", [width], "{ width: -1# x\n}"), (" { name: \"q\" }", [width], " { name: \"q\" width: -1 }"),
                ("{name:\"q\"}", [width], "{name:\"q\" width: -1}"), (" { name: \"q\" # x\n }", [width], " { name: \"q\" width: -1 # x\n }"),
                (" { edge: { } }", [size], " { edge: { size: 3 } }"), (" { edge: {} }", [size, width], " { edge: { size: 3 } width: -1 }"),
                ("{edge:{}}", [size, width], "{edge:{ size: 3 } width: -1}"),
                (" { edge: { tone: \"u\" } far: { } }", [size, far, depth], " { edge: { tone: \"u\" size: 3 } far: { size: 4 } depth: 2 }"),
                (" { depth: first.width }", [width], " { depth: first.width width: -1 }"),
                (" { edge: { size: first.width } }", [width, tone], " { edge: { size: first.width tone: \"t\" } width: -1 }")]:
            self.becomes(old, deeds, new)

    def test_entries_come_where_others_go(self):
        gone, size = ("gone", ("width",)), ("set", ("edge", "size"), 3)
        for old, new in [(" { width: 3 }", " { edge: { size: 3 } }"), ("{width:3}", "{ edge: { size: 3 } }"), (" { width: 3}", " { edge: { size: 3 } }"),
                         (" {# a\nwidth: 3}", " { edge: { size: 3 }# a\n}"), (" { width: 3 # a\n}", " { edge: { size: 3 } # a\n}"),
                         (" { depth: 1 width: 3 }", " { depth: 1 edge: { size: 3 } }"), (" { width: 3 depth: 1 }", " { depth: 1 edge: { size: 3 } }"),
                         (" { depth: 1 # a\n width: 3 # b\n }", " { depth: 1 edge: { size: 3 } # a\n # b\n }")]:
            self.becomes(old, [gone, size], new)

    def test_in_the_owner_s_own_text(self):
        lib = "template line { size: 2 } template box { edge: new line } template wide = box { }"
        for spot, new in [(("lib", "box", ("edge", "size")), "template line { size: 2 } template box { edge: new line { size: 9 } } template wide = box { }"),
                          (("lib", "wide", ("edge", "size")), "template line { size: 2 } template box { edge: new line } template wide = box { edge: { size: 9 } }"),
                          (("lib", "line", ("size",)), "template line { size: 9 } template box { edge: new line } template wide = box { }")]:
            found = project(lib=lib, main="import lib document { a: new wide }")
            after = made(found, (("set", spot, 9),))
            self.assertEqual((after["lib"], after["main"]), (new, found["main"]))
        after = made(project(lib=lib, main="import lib document { a: new wide }"), (("set", ("main", "", ("a", "edge", "size")), 9),))
        self.assertEqual((after["lib"], after["main"]), (lib, "import lib document { a: new wide { edge: { size: 9 } } }"))

    def test_rows(self):
        text = "list l (p: number) [ { p: 1 } ] template t { v: 0 n: new u } template u { w: 0 } document { r: for x in l where x.p = 1 give t%s }"
        deeds = (("set", ("main", "", ("r", "*", "n", "w")), 2), ("set", ("main", "", ("r", "*", "v")), 3))
        for old, new in [("", " { n: { w: 2 } v: 3 }"), (" { }", " { n: { w: 2 } v: 3 }"), ("{n:{}}", "{n:{ w: 2 } v: 3}"), (" {v:x.p}", None)]:
            if new is None:
                self.assertEqual(made(project(text % old), deeds[:1])["main"], text % " {v:x.p n: { w: 2 }}")
            else:
                self.assertEqual(made(project(text % old), deeds)["main"], text % new)


class Lists(unittest.TestCase):
    def becomes(self, old, serials, expected, *sets, columns="n: number"):
        head = "list l (" + columns + ") ["
        plan = [("order", "main", "l", serials)] if serials is not None else []
        plan += [("set", ("main", "l", path), worth) for path, worth in sets]
        self.assertEqual(made(project(head + old + "] document { }"), tuple(sorted(plan)))["main"], head + expected + "] document { }")

    def test_orders(self):
        three = " # zero\n { n: 0 } # one\n{n:1}\n  { n: # two\n 2 } # end\n "
        zero, one, two, end = " # zero\n { n: 0 }", " # one\n{n:1}", "\n  { n: # two\n 2 }", " # end\n "
        for serials, expected in [((1, 0, 2), one + zero + two), ((2, 1, 0), two + one + zero), ((2,), two), ((0, 2), zero + two), ((), ""), ((1,), one)]:
            self.becomes(three, serials, expected + end)

    def test_literals_with_an_order(self):
        self.becomes(" { n: -1 } {n:2} ", (1, 0), " {n:2} { n: 3 } ", ((0, "n"), 3))
        self.becomes(" { n: -1 } {n:2} ", None, " { n: 3 } {n:-4} ", ((0, "n"), 3), ((1, "n"), -4))
        self.becomes(" { n: -1 } {n:2} ", (1,), " {n:0} ", ((1, "n"), 0))

    def test_new_items(self):
        self.becomes("", (0,), " { n: -4 } ", ((0, "n"), -4))
        self.becomes(" ", (0,), " { n: 4 } ", ((0, "n"), 4))
        self.becomes("\n", (1, 0), " { n: 5 } { n: 4 }\n", ((0, "n"), 4), ((1, "n"), 5))
        self.becomes("# none\n", (0,), " { n: 4 }# none\n", ((0, "n"), 4))
        self.becomes("{ n: 1 }", (1, 0), " { n: 4 }{ n: 1 }", ((1, "n"), 4))
        self.becomes("{ n: 1 }", (1,), " { n: 4 }", ((1, "n"), 4))
        self.becomes(" { n: 1 } # end\n ", (0, 1), " { n: 1 } { n: 4 } # end\n ", ((1, "n"), 4))

    def test_fields_as_the_list_declares_them(self):
        self.becomes(' { a: 1 m: "x" }', (1, 0), ' { m: "z" a: 2 } { a: 1 m: "x" }', ((1, "a"), 2), ((1, "m"), "z"), columns="m: text, a: number")

    def test_without_fields(self):
        self.becomes("", (1, 0), " { } { } ", columns="")
        self.becomes(" { } {}# one\n", (1, 2), " {} { }# one\n", columns="")
        self.becomes("{}{ }", (1, 0), "{ }{}", columns=" ")


class ByChance(unittest.TestCase):
    def test_sign_for_sign(self):
        """The worlds in any layout, each with three plans, told by their tokens a second way."""
        chance = random.Random(11)
        count = 0
        for world, found, _ in sound().worlds[:260]:
            for _ in range(3):
                plan = random_plan(world, chance, chance.choice((0.1, 0.3, 0.6, 0.9)))
                files = tuple((name, spaced([token for _, token in tokens(text)], chance)[0]) for name, text in found.files)
                after = made(Project(files), plan)
                for name, text in files:
                    self.assertEqual(after[name], second_text(world, name, text, plan), (text, plan))
                    count += after[name] != text
                self.assertEqual(after.names, found.names)
        self.assertGreater(count, 500)

    def test_again_and_again(self):
        """What is written is read, and written again."""
        found = project(HEAD + "document { a: new wide b: new box { edge: { size: a.width } } c: new box }")
        chance = random.Random(12)
        spots = [("main", owner, path) for owner in ("", "wide", "box") for path in (("width",), ("edge", "tone"), ("far", "size"))]
        spots = [("main", "", (use,) + spot[2]) if spot[1] == "" else spot for spot in spots for use in "abc"]
        for _ in range(150):
            spot = chance.choice(spots)
            old = project(found["main"])
            told = definition(found, spot)
            last = spot[1] == "box" and len(spot[2]) == 1
            if told and not last and chance.random() < 0.6:
                deed = ("gone", spot)
            else:
                new = chance.randrange(100) if spot[2][-1] != "tone" else chance.choice("abcdef")
                if told == ("literal", new):
                    continue
                deed = ("set", spot, new)
            found = made(found, (deed,))
            self.assertEqual(definition(found, spot), None if deed[0] == "gone" else ("literal", deed[2]))
            self.assertEqual(output(found, "main"), output(project(found["main"]), "main"))
            self.assertEqual(places(found), places(old))


if __name__ == "__main__":
    unittest.main()
