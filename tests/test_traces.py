"""Point 12: things, their traces, sources and readers."""

import types
import unittest

from helping import ANY, Refusing, project
from randomly import expression_text, literal_text, sound
from sourceback.errors import NoSpot, NoThing
from sourceback.places import definition, hidden_places, levels, places, rows_places
from sourceback.traces import readers, sources, things, trace, worth
from sourceback.values import shown, value_of


class Told:
    """The things of a world and their traces, told by the layers of its output."""

    def __init__(self, world, result):
        self.world, self.result = world, result
        self.things = [("value", place) for place in result.layers]
        for place, loop in result.loops.items():
            self.things.append(("rows", place))
            if loop["where"]:
                self.things += [("where", place, serial) for serial in self.serials(loop)]

    def serials(self, loop):
        return tuple(range(len(self.world.lists[loop["list"]]["items"])))

    def literal(self, loop, serial, field):
        return ("literal", loop["list"] + ((serial, field),), self.world.lists[loop["list"]]["items"][serial][field])

    def place(self, file, path):
        return ("read", ("value", (file, path)), self.result.value(file, path))

    def steps(self, thing):
        file, path = thing[1]
        if thing[0] == "value":
            return self.value_steps(file, path)
        loop = self.result.loops[thing[1]]
        if thing[0] == "rows":
            steps = [("list",) + loop["list"] + (self.serials(loop),)]
            if loop["where"]:
                steps += [("read", ("where", thing[1], serial), serial in self.result.rows[thing[1]][1])
                          for serial in self.serials(loop)]
            return steps
        column, right = loop["where"]
        text = " . ".join(right) if isinstance(right, tuple) else literal_text(right)
        steps = [("where", f"{loop['var']} . {column} = {text}"), self.literal(loop, thing[2], column)]
        return steps + ([self.place(file, path[:-1] + right)] if isinstance(right, tuple) else [])

    def value_steps(self, file, path):
        steps = []
        for layer in self.result.layers[(file, path)]:
            value = layer.get(path[-1])
            spot = layer.level(path[-1])
            if value is None:
                steps.append(("none", spot))
            elif value["form"] == "literal":
                return steps + [("literal", spot, value["worth"])]
            else:
                return steps + [("expression", spot, expression_text(value))] + self.reads(file, layer.home, value)

    def reads(self, file, home, value):
        if value["form"] == "literal":
            return []
        if value["form"] == "copy":
            return [self.read(file, home, value["path"])]
        if value["form"] == "sum":
            return [self.read(file, home, path) for _, _, path in value["terms"] if path]
        first = self.read(file, home, value["path"])
        same = first[2] == value["literal"]
        return [first, ("way", same)] + self.reads(file, home, value["sides"][0 if same else 1])

    def read(self, file, home, path):
        if home.item is not None and path[0] == home.item[0]["var"]:
            return self.literal(home.item[0], home.item[1], path[1])
        return self.place(file, home.path + path)

    def sources(self, thing):
        found = set()
        for step in self.steps(thing):
            if step[0] == "literal":
                found.add(step[1])
            if step[0] == "read":
                found |= set(self.sources(step[1]))
        return tuple(sorted(found))


class Randomly(unittest.TestCase):
    @classmethod
    def setUpClass(cls):
        cls.found = [(project, Told(world, result)) for world, project, result in sound().worlds]

    def test_things(self):
        for project, told in self.found:
            self.assertEqual(things(project), tuple(sorted(told.things)))

    def test_traces(self):
        seen = set()
        for project, told in self.found:
            for thing in told.things:
                steps = list(trace(project, thing))
                self.assertEqual(steps, told.steps(thing), (project.files, thing))
                seen |= {step[:1] + step[1:2] if step[0] == "way" else step[:1] for step in steps}
        self.assertEqual(seen, {("none",), ("literal",), ("expression",), ("read",), ("where",), ("list",),
                                ("way", True), ("way", False)})

    def test_worth(self):
        for project, told in self.found:
            hidden = set()
            for thing in told.things:
                if thing[0] == "value":
                    self.assertEqual(worth(project, thing), value_of(project, thing[1]))
                elif thing[0] == "rows":
                    self.assertEqual(worth(project, thing), told.result.rows[thing[1]][1])
                    if not told.result.rows[thing[1]][0]:
                        self.assertEqual(worth(project, thing), shown(project, thing[1]))
                    else:
                        hidden.add(thing)
                else:
                    self.assertIs(worth(project, thing), thing[2] in told.result.rows[thing[1]][1])

    def test_sources(self):
        for project, told in self.found:
            for thing in told.things:
                self.assertEqual(sources(project, thing), told.sources(thing), (project.files, thing))

    def test_readers(self):
        for project, told in self.found[:80]:
            looks = {}
            for file, name in told.world.lists:
                looks[("list", file, name)] = set()
                for serial, item in enumerate(told.world.lists[(file, name)]["items"]):
                    looks.update({(file, name, (serial, field)): set() for field in item})
            for thing in told.things:
                for step in told.steps(thing):
                    if step[0] in ("none", "literal", "expression"):
                        looks.setdefault(step[1], set()).add(thing)
                    elif step[0] == "list":
                        looks[step[:3]].add(thing)
                if thing[0] == "value":
                    for spot in levels(project, thing[1]):
                        looks.setdefault(spot, set())
            for value, expected in looks.items():
                self.assertEqual(readers(project, value), tuple(sorted(expected)), (project.files, value))


LIB = """
list goods (p: number, t: text) [ { p: 1 t: "a" } { p: 2 t: "b" } ]
list none (q: number) [ ]
template line { size: 2 * 1 * base base: 4 }
template thick = line { base: 5 }
""".replace("2 * 1 * base", "2 * base")
MAIN = """
import lib
template shelf { want: "a" rows: for g in goods where g.t = want give thick { base: g.p + g.p - 3 } }
document {
    one: new shelf
    let veil: new shelf { want: one.want }
    all: for g in goods give line
    some: for g in goods where g . p = - 2 give shelf { want: if g.t = "b" then g.t else one.want }
    odd: for n in none where n.q=0 give line
    pick: if veil.want = "a" then 3 else two - 1
    two: 2
}
"""


class Steps(unittest.TestCase):
    def setUp(self):
        self.project = project(MAIN, lib=LIB)

    def steps(self, *thing):
        return list(trace(self.project, thing))

    def test_things(self):
        found = things(self.project)
        self.assertEqual(list(found), sorted(set(found)))
        self.assertEqual({thing[1] for thing in found if thing[0] == "value"},
                         set(places(self.project) + hidden_places(self.project)))
        self.assertEqual([thing[1] for thing in found if thing[0] == "rows"], [
            ("main", ("all",)), ("main", ("odd",)), ("main", ("one", "rows")), ("main", ("some",)),
            ("main", ("veil", "rows"))])
        self.assertEqual([thing[1:] for thing in found if thing[0] == "where"], [
            (("main", ("one", "rows")), 0), (("main", ("one", "rows")), 1), (("main", ("some",)), 0), (("main", ("some",)), 1),
            (("main", ("veil", "rows")), 0), (("main", ("veil", "rows")), 1)])
        self.assertIsInstance(found, tuple)

    def test_levels_without_a_definition(self):
        self.assertEqual(self.steps("value", ("main", ("one", "want"))), [
            ("none", ("main", "", ("one", "want"))), ("literal", ("main", "shelf", ("want",)), "a")])

    def test_reads_stand_as_often_as_in_the_text(self):
        self.assertEqual(self.steps("value", ("main", ("one", "rows", 0, "base"))), [
            ("expression", ("main", "shelf", ("rows", "*", "base")), "g . p + g . p - 3"),
            ("literal", ("lib", "goods", (0, "p")), 1), ("literal", ("lib", "goods", (0, "p")), 1)])

    def test_reads_of_places(self):
        self.assertEqual(self.steps("value", ("main", ("one", "rows", 0, "size"))), [
            ("none", ("main", "shelf", ("rows", "*", "size"))), ("none", ("lib", "thick", ("size",))),
            ("expression", ("lib", "line", ("size",)), "2 * base"),
            ("read", ("value", ("main", ("one", "rows", 0, "base"))), -1)])

    def test_ways(self):
        self.assertEqual(self.steps("value", ("main", ("pick",))), [
            ("expression", ("main", "", ("pick",)), 'if veil . want = "a" then 3 else two - 1'),
            ("read", ("value", ("main", ("veil", "want"))), "a"), ("way", True)])
        made = self.project.written("main", MAIN.replace('want: "a"', 'want: "b"'))
        self.assertEqual(list(trace(made, ("value", ("main", ("pick",)))))[1:], [
            ("read", ("value", ("main", ("veil", "want"))), "b"), ("way", False),
            ("read", ("value", ("main", ("two",))), 2)])

    def test_wheres(self):
        self.assertEqual(self.steps("where", ("main", ("veil", "rows")), 1), [
            ("where", "g . t = want"), ("literal", ("lib", "goods", (1, "t")), "b"),
            ("read", ("value", ("main", ("veil", "want"))), "a")])
        self.assertEqual(self.steps("where", ("main", ("some",)), 0), [
            ("where", "g . p = - 2"), ("literal", ("lib", "goods", (0, "p")), 1)])

    def test_rows(self):
        self.assertEqual(self.steps("rows", ("main", ("all",))), [("list", "lib", "goods", (0, 1))])
        self.assertEqual(self.steps("rows", ("main", ("odd",))), [("list", "lib", "none", ())])
        self.assertEqual(self.steps("rows", ("main", ("some",))), [
            ("list", "lib", "goods", (0, 1)), ("read", ("where", ("main", ("some",)), 0), False),
            ("read", ("where", ("main", ("some",)), 1), False)])

    def test_worth(self):
        self.assertEqual(worth(self.project, ("rows", ("main", ("veil", "rows")))), (0,))
        self.assertEqual(worth(self.project, ("rows", ("main", ("all",)))), (0, 1))
        self.assertIs(worth(self.project, ("where", ("main", ("veil", "rows")), 0)), True)
        self.assertIs(worth(self.project, ("where", ("main", ("veil", "rows")), 1)), False)
        self.assertEqual(worth(self.project, ("value", ("main", ("veil", "want")))), "a")

    def test_serials_that_are_no_indexes(self):
        few = self.project.written("lib", LIB.replace('{ p: 2 t: "b" } ', ""))
        made = few.written("lib", LIB)
        self.assertEqual(made.serials("lib", "goods"), (0, 2))
        self.assertIn(("where", ("main", ("some",)), 2), things(made))
        self.assertEqual(list(trace(made, ("where", ("main", ("some",)), 2)))[1], ("literal", ("lib", "goods", (2, "p")), 2))
        self.assertEqual(readers(made, ("lib", "goods", (2, "t")))[0], ("where", ("main", ("one", "rows")), 2))
        with self.assertRaises(NoThing):
            worth(made, ("where", ("main", ("some",)), 1))
        with self.assertRaises(NoSpot):
            readers(made, ("lib", "goods", (1, "t")))

    def test_sources_over_many_reads(self):
        words = [a + b for a in "abcdefghijklmnopq" for b in "abcdefghijklmnopq"]
        words = [word for word in words if word not in ("if", "in")]
        chain = " ".join(f"{first}: {then} + {then} + 1" for first, then in zip(words, words[1:]))
        made = project(f"document {{ {chain} {words[-1]}: 0 }}")
        self.assertEqual(sources(made, ("value", ("main", (words[0],)))), (("main", "", (words[-1],)),))

    def test_sources_of_rows_and_wheres(self):
        self.assertEqual(sources(self.project, ("where", ("main", ("veil", "rows")), 1)), (
            ("lib", "goods", (1, "t")), ("main", "shelf", ("want",))))
        self.assertEqual(sources(self.project, ("rows", ("main", ("some",)))), (
            ("lib", "goods", (0, "p")), ("lib", "goods", (1, "p"))))
        self.assertEqual(sources(self.project, ("rows", ("main", ("all",)))), ())

    def test_readers(self):
        self.assertEqual(readers(self.project, ("main", "shelf", ("want",))), (
            ("value", ("main", ("one", "want"))),))
        self.assertEqual(readers(self.project, ("main", "", ("one", "want"))), (("value", ("main", ("one", "want"))),))
        self.assertEqual(readers(self.project, ("main", "", ("two",))), (("value", ("main", ("two",))),))
        self.assertEqual(readers(self.project, ("lib", "thick", ("base",))), ())
        self.assertEqual(readers(self.project, ("list", "lib", "goods")), (
            ("rows", ("main", ("all",))), ("rows", ("main", ("one", "rows"))), ("rows", ("main", ("some",))),
            ("rows", ("main", ("veil", "rows")))))
        self.assertEqual(readers(self.project, ("list", "lib", "none")), (("rows", ("main", ("odd",))),))

    def test_by_name(self):
        thing = ("value", ("main", ("two",)))
        spot = ("main", "", ("two",))
        self.assertEqual(worth(project=self.project, thing=thing), 2)
        self.assertEqual(list(trace(project=self.project, thing=thing)), [("literal", spot, 2)])
        self.assertEqual(sources(project=self.project, thing=thing), (spot,))
        self.assertEqual(readers(project=self.project, value=spot), (thing,))
        self.assertEqual(things(project=self.project), things(self.project))

    def test_a_trace_is_a_generator(self):
        self.assertIsInstance(trace(self.project, ("value", ("main", ("two",)))), types.GeneratorType)

    def test_nothing_is_there(self):
        self.assertEqual(things(project("template t { a: 1 }")), ())
        self.assertEqual(things(project("document { }")), ())


class Nothing(Refusing):
    def setUp(self):
        self.project = project(MAIN, lib=LIB)

    def near(self, values):
        """Values that are near these."""
        parts = [None, True, False, 0, 1, 2, -1, "value", "rows", "where", "list", "0", (), [], {}, ("main",), ("main", ("two",)),
                 ("main", ("some",)), ("main", ("veil", "rows")), ("main", ("one", "rows", 0))]
        for value in values:
            yield list(value)
            yield (value,)
            for at in range(len(value) + 1):
                yield value[:at] + value[at + 1:]
                for part in parts:
                    yield value[:at] + (part,) + value[at:]
                    yield value[:at] + (part,) + value[at + 1:]
                if at < len(value) and isinstance(value[at], tuple):
                    yield value[:at] + (list(value[at]),) + value[at + 1:]
                    for inner in self.near([value[at]]):
                        yield value[:at] + (inner,) + value[at + 1:]

    def test_no_thing(self):
        found = things(self.project)
        exact = {repr(thing) for thing in found}
        count = 0
        for value in ANY + list(self.near(found)):
            if repr(value) in exact:
                continue
            count += 1
            for ask in (worth, sources, lambda project, value: next(trace(project, value))):
                self.refused(NoThing, ask, value)
        self.assertGreater(count, 1000)

    def test_rows_without_a_condition(self):
        for serial in (0, 1, 2):
            for ask in (worth, sources, lambda project, value: next(trace(project, value))):
                self.refused(NoThing, ask, ("where", ("main", ("all",)), serial))

    def test_no_spot_and_no_list(self):
        spots = [spot for place in places(self.project) + hidden_places(self.project) for spot in levels(self.project, place)]
        spots = sorted(set(spots)) + [("lib", "goods", (0, "p")), ("list", "lib", "goods"), ("list", "lib", "none")]
        count = 0
        for value in ANY + list(self.near(spots)):
            if isinstance(value, tuple) and value in spots and repr(value) in {repr(spot) for spot in spots}:
                continue
            try:
                definition(self.project, value)
            except NoSpot:
                count += 1
                if repr(value) not in ("('list', 'lib', 'goods')", "('list', 'lib', 'none')"):
                    self.refused(NoSpot, readers, value)
        self.assertGreater(count, 1000)

    def test_hidden_rows_places_are_things(self):
        self.assertNotIn(("main", ("veil", "rows")), rows_places(self.project))
        self.assertEqual(worth(self.project, ("rows", ("main", ("veil", "rows")))), (0,))


if __name__ == "__main__":
    unittest.main()
