"""Point 13 and guarantee (d): kept values, and just what is worked out anew."""

import copy
import random
import unittest

from helping import ANY, project
from planning import otherwise, random_plan
from randomly import sound
from sourceback.errors import BadFiles, BadPlan, NoThing, SourceError
from sourceback.kept import Kept
from sourceback.plans import made
from sourceback.projects import Project
from sourceback.traces import sources, things, trace, worth

TWICE = "template t { a: 3 b: 2 * a } document { u: new t v: new t { a: 5 } }"


def value(*path):
    return ("value", ("main", path))


def all_traces(found):
    return {thing: list(trace(found, thing)) for thing in things(found)}


class Keeping(unittest.TestCase):
    def same(self, kept, found):
        """The kept values are those of a project worked out from nothing."""
        self.assertEqual(kept.project, found)
        self.assertEqual(len(kept), len(things(found)))
        for thing in things(found):
            self.assertEqual(kept[thing], worth(found, thing), thing)
            self.assertIs(type(kept[thing]), type(worth(found, thing)))

    def follows(self, kept, before, found):
        """Just what is new, and what has another trace, was worked out."""
        self.same(kept, found)
        old, new = all_traces(before), all_traces(found)
        expected = tuple(thing for thing in things(found) if thing not in old or old[thing] != new[thing])
        self.assertEqual(kept.worked, expected)
        return expected


class Examples(Keeping):
    def test_of_the_document(self):
        kept = Kept(project(TWICE)).changed((("set", ("main", "t", ("a",)), 4),))
        self.assertEqual([kept.worked, kept[value("u", "b")], len(kept)], [(value("u", "a"), value("u", "b")), 8, 4])

    def test_in_words(self):
        kept = Kept(project(TWICE))
        self.assertEqual(kept.worked, things(kept.project))
        self.assertEqual(kept.changed((("set", ("main", "", ("u", "a")), 4),)).worked, (value("u", "a"), value("u", "b")))
        self.assertEqual(kept.changed((("set", ("main", "", ("u", "a")), 3),)).worked, (value("u", "a"),))
        kept = Kept(project("document { p: 1 d: p - p e: d + 1 }")).changed((("set", ("main", "", ("p",)), 7),))
        self.assertEqual((kept.worked, kept[value("d")], kept[value("e")]), ((value("d"), value("p")), 0, 1))

    def test_templates_behind_one_another(self):
        kept = Kept(project("template t { a: 3 } template u = t { } template v = u { a: 5 } document { x: new t y: new u z: new v w: x.a - x.a q: w + y.a }"))
        for spot, worked in [(("t", ("a",)), [value("q"), value("w"), value("x", "a"), value("y", "a")]), (("u", ("a",)), [value("q"), value("y", "a")]),
                             (("v", ("a",)), [value("z", "a")]), (("", ("x", "a")), [value("w"), value("x", "a")])]:
            self.assertEqual(kept.changed((("set", ("main",) + spot, 9),)).worked, tuple(worked))

    def test_an_order(self):
        kept = Kept(project("list l (n: number) [ { n: 1 } { n: 2 } { n: 1 } ] template r { v: 0 } "
                            "document { a: for x in l give r { v: x.n } b: for x in l where x.n = 1 give r c: for x in l where x.n = 3 give r }"))
        after = kept.changed((("order", "main", "l", (2, 1, 0)),))
        self.assertEqual(after.worked, tuple(("rows", ("main", (name,))) for name in "abc"))
        self.assertEqual((after[("rows", ("main", ("b",)))], after[("where", ("main", ("b",)), 1)]), ((2, 0), False))
        after = kept.changed((("order", "main", "l", (0, 1, 3)), ("set", ("main", "l", (3, "n")), 3)))
        self.assertEqual(after.worked, (("rows", ("main", ("a",))), ("rows", ("main", ("b",))), ("rows", ("main", ("c",))), value("a", 3, "v"),
                                        value("c", 3, "v"), ("where", ("main", ("b",)), 3), ("where", ("main", ("c",)), 3)))
        self.assertEqual((len(after), len(kept)), (14, 14))

    def test_nothing_is_worked_out_by_gaps(self):
        kept = Kept(project(TWICE))
        again = kept.rewritten("main", TWICE.replace(" ", "  # x\n ")).rewritten("main", TWICE)
        self.assertEqual(again.worked, ())
        self.same(again, project(TWICE))
        self.assertEqual(kept.rewritten("nofile", None).worked, ())
        self.assertEqual(kept.changed(()).worked, ())


class Texts(Keeping):
    BASE = ('list l (n: number, m: text) [ { n: 1 m: "a" } { n: 2 m: "b" } ] template t { a: 3 b: a + 1 } template u = t { b: 2 * a } '
            'document { p: 2 let h: p c: if h = 2 then p else 5 x: new t { a: p } rows: for g in l where g.n = h give t { a: g.n } }')

    def test_four_texts_one_in_the_place_of_the_other(self):
        changes = [("p: 2", "p: 3"), ("p: 2", "p: 1 + h"), ("let h: p", "let h: 2"), ("if h = 2", "if h = 3"), ("then p", "then 2"),
                   ("else 5", "else 6"), ("g.n = h", "g.n = 2"), ("g.n = h", "g.n = p"), ('where g.n = h', 'where g.m = "a"'),
                   (" where g.n = h", ""), ("give t", "give u"), ("x: new t", "x: new u"), ("a: p", "b: p"), ("{ a: p }", ""),
                   ("u = t", "u = v"), ("template u = t { b: 2 * a }", "template u { a: 3 b: 1 }"), ("b: a + 1", "b: 4"), ("a: g.n", "a: p"),
                   ("for g in l", "for g in k"), ('{ n: 2 m: "b" }', '{ n: 2 m: "b" } { n: 2 m: "c" }'), ('{ n: 1 m: "a" } ', ""),
                   ("rows:", "more: 1 rows:"), ("let h", "h"), ("c: if", "d: if"), (" ", "  "), ("2 * a", "2 * a - 0 * b")]
        chance = random.Random(1)
        refused = 0
        for round_ in range(150):
            text = self.BASE + " template v { a: 0 b: 0 } list k (n: number, m: text) [ { n: 2 m: \"q\" } ]"
            text = text.replace("document", "template w { } document")
            parts = text.split(" document ")
            head, rest = parts[0], parts[1]
            body, tail = rest[:rest.index(" template v")], rest[rest.index(" template v"):]
            text = head + tail + " document " + body
            kept = Kept(project(text))
            for _ in range(4):
                old, new = chance.choice(changes)
                if chance.random() < 0.3:
                    old, new = new, old
                other = text.replace(old, new, 1) if old else text
                before = kept.project
                try:
                    kept = kept.rewritten("main", other)
                except SourceError:
                    refused += 1
                    continue
                text = other
                self.follows(kept, before, before.written("main", other))
        self.assertLess(refused, 300)

    def test_each_alone(self):
        text = "list l (n: number) [ { n: 1 } { n: 2 } ] list k (n: number) [ { n: 1 } { n: 2 } ] template t { a: 3 } template s { a: 3 } template u = t { } " \
               "document { p: 2 x: new u y: x.a rows: for g in l where g.n = p give t { a: g.n } }"
        rows, place = [("rows", ("main", ("rows",)))], ("main", ("rows",))
        wheres = [("where", place, 0), ("where", place, 1)]
        for old, new, worked in [("u = t", "u = s", [value("x", "a")]), ("give t", "give s", []), ("new u", "new s", [value("x", "a")]),
                                 ("g.n = p", "g.n = 2", wheres), ("in l where", "in k where", rows + [value("rows", 1, "a")] + wheres),
                                 (" where g.n = p", "", rows + [value("rows", 0, "a")]), ("y: x.a", "y: x . a", []), ("y: x.a", "y: 1 * x.a", [value("y")]),
                                 ("p: 2", "p: - 2", rows + [value("p")] + wheres), ("{ n: 1 } { n: 2 } ] list k", "{ n: 2 } { n: 2 } ] list k", rows + [value("rows", 0, "a"), wheres[0]]),
                                 ("template t { a: 3 }", "template t { a: 4 }", [value("x", "a"), value("y")])]:
            before = project(text)
            kept = Kept(before).rewritten("main", text.replace(old, new, 1))
            self.assertEqual(kept.worked, tuple(worked), (old, new))
            self.follows(kept, before, before.written("main", text.replace(old, new, 1)))

    def test_files_that_come_and_go(self):
        kept = Kept(project(main="document { a: 1 }"))
        steps = [("lib", "template t { v: 1 }"), ("lib", "template t { v: 1 } document { x: new t }"), ("main", "import lib document { a: 1 b: new t }"),
                 ("lib", "template t { v: 2 } document { x: new t }"), ("lib", "template t { v: 2 }"), ("main", "document { a: 1 }"), ("lib", None),
                 ("other", "document { }"), ("main", "document { a: 1 c: 2 }")]
        worked = []
        for name, text in steps:
            before = kept.project
            kept = kept.rewritten(name, text)
            worked.append([path for _, (file, path) in self.follows(kept, before, before.written(name, text))])
        self.assertEqual(worked, [[], [("x", "v")], [("b", "v")], [("x", "v"), ("b", "v")], [], [], [], [], [("c",)]])

    def test_items_that_come_and_go_by_texts(self):
        def text(numbers):
            return ("list l (n: number) [ " + " ".join(f"{{ n: {number} }}" for number in numbers) + " ] template t { a: 0 } "
                    "document { all: for g in l give t { a: g.n } one: for g in l where g.n = 1 give t }")
        chance = random.Random(3)
        kept = Kept(project(text([1, 2])))
        for _ in range(60):
            new = text([chance.randrange(3) for _ in range(chance.randrange(5))])
            before = kept.project
            kept = kept.rewritten("main", new)
            self.follows(kept, before, before.written("main", new))


class ByChance(Keeping):
    def test_three_plans(self):
        chance = random.Random(4)
        some = 0
        for world, found, _ in sound().worlds[:90]:
            kept = first = Kept(found)
            values = {thing: kept[thing] for thing in things(found)}
            self.assertEqual(kept.worked, things(found))
            for _ in range(3):
                plan = self.plan(world, kept.project, chance)
                before = kept.project
                kept = kept.changed(plan)
                worked = self.follows(kept, before, made(before, plan))
                some += 0 < len(worked) < len(kept)
            self.assertEqual({thing: first[thing] for thing in things(found)}, values)
            self.assertEqual(first.worked, things(found))
            self.assertEqual(first.project, found)
        self.assertGreater(some, 60)

    def plan(self, world, found, chance):
        """A plan made for the world, as far as it is still one."""
        plan = random_plan(world, chance, 0.25)
        try:
            made(found, plan)
            return plan
        except BadPlan:
            for deed in plan:
                try:
                    made(found, (deed,))
                    return (deed,)
                except BadPlan:
                    pass
            return ()

    def test_a_literal_that_is_the_same_at_another_level(self):
        """The value is the same, the trace is not."""
        kept = Kept(project(TWICE))
        after = kept.changed((("set", ("main", "", ("u", "a")), 3),))
        self.assertEqual((after.worked, after[value("u", "a")], after[value("u", "b")]), ((value("u", "a"),), 3, 6))
        back = after.changed((("gone", ("main", "", ("u", "a"))),))
        self.assertEqual(back.worked, (value("u", "a"),))
        self.assertEqual(after.changed((("set", ("main", "t", ("a",)), 9),)).worked, ())

    def test_values_of_one_type(self):
        kept = Kept(project("document { a: 1 }"))
        self.assertIs(kept[value("a")], 1)


class Errors(Keeping):
    TEXT = "list l (n: number) [ { n: 1 } { n: 2 } ] template t { let v: 1 } document { a: 1 let r: new t one: for g in l where g.n = 1 give t all: for g in l give t }"

    def test_no_things(self):
        found = project(self.TEXT)
        kept = Kept(found)
        more = [("value", ("main", ("b",))), ("value", ("main", ("one",))), ("rows", ("main", ("a",))), ("where", ("main", ("all",)), 0),
                ("where", ("main", ("one",)), 2), ("where", ("main", ("one",)), True), ("where", ("main", ("one",))), ("value", ("main", ("one", 1, "v"))),
                ("value", ("main", ("one", False, "v"))), ["value", ("main", ("a",))], ("value", ["main", ("a",)]), ("value", ("main", ["a"])),
                ("value", ("lib", ("a",))), ("rows", ("main", ("one",)), 0), ("value", ("main", ("a",)), 0), ("Value", ("main", ("a",))), (("value",), ("main", ("a",)))]
        for thing in ANY + more:
            self.refuses(found, kept, thing)
        self.assertEqual(kept[("where", ("main", ("one",)), 1)], False)

    def refuses(self, found, kept, thing):
        for ask in (lambda: kept[thing], lambda: worth(found, thing), lambda: list(trace(found, thing)), lambda: sources(found, thing)):
            before = copy.deepcopy(thing)
            with self.assertRaises(NoThing) as caught:
                ask()
            self.assertIs(caught.exception.value, thing)
            self.assertEqual(thing, before)

    def test_things_with_one_thing_otherwise(self):
        found = project(self.TEXT)
        kept = Kept(found)
        chance = random.Random(9)
        listed = [repr(thing) for thing in things(found)]
        for thing in things(found):
            for _ in range(60):
                other = otherwise(thing, chance)
                if repr(other) in listed:
                    self.assertEqual(kept[other], worth(found, other))
                else:
                    self.refuses(found, kept, other)

    def test_things_that_are_gone(self):
        kept = Kept(project(self.TEXT))
        after = kept.changed((("order", "main", "l", (1,)),))
        gone = ("value", ("main", ("one", 0, "v")))
        self.assertEqual(kept[gone], 1)
        self.refuses(after.project, after, gone)

    def test_no_plans(self):
        kept = Kept(project(self.TEXT))
        good = ("set", ("main", "", ("a",)), 7)
        for plan in [value for value in ANY if value != ()] + [[good], (good, good), (("set", ("main", "", ("a",)), 1),)]:
            before = copy.deepcopy(plan)
            with self.assertRaises(BadPlan) as caught:
                kept.changed(plan)
            self.assertIs(caught.exception.value, plan)
            self.assertEqual(plan, before)
        self.assertEqual(kept.changed(plan=(good,))[value("a")], 7)

    def test_what_written_raises(self):
        kept = Kept(project(self.TEXT))
        for name, text in [("main", None), ("Main", ""), ("x", "\\"), (None, ""), ([], {}), ("main", 3)]:
            with self.assertRaises(BadFiles) as caught:
                kept.rewritten(name, text)
            self.assertEqual(caught.exception.value, (name, text))
        with self.assertRaises(SourceError) as caught:
            kept.rewritten(name="main", text="document { a: b }")
        self.assertEqual((caught.exception.word, caught.exception.index), ("field", 14))
        self.assertEqual(kept.rewritten(None, None).worked, ())
        self.assertEqual(kept[value("a")], 1)

    def test_it_is_looked_up_not_gone_through(self):
        kept = Kept(project=project(self.TEXT))
        with self.assertRaises(TypeError):
            iter(kept)


if __name__ == "__main__":
    unittest.main()
