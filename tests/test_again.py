"""Points 2 to 5: the same sources written otherwise, sources with a little more, and large ones."""

import random
import unittest

from helping import fault, marked, project, spaced
from randomly import sound
from sourceback.files import tokens
from sourceback.places import definition, hidden_places, levels, places, rows_places
from sourceback.projects import Project
from sourceback.traces import readers, things, trace, worth
from sourceback.values import labelled, output, value_of

# One error of each phase behind the signs, at the @.
FAULTS = [
    "document { a: 3 + 4 @}", "document { a: - @- 3 }", "template t { a: 1 } template w = t { @let a: 2 }", "document { a: 1 @",
    "import @nofile document { a: 1 }", "document { b: 1 a: 1 @a: 2 }", "list l ( ) [ ] template @l { }",
    "document { a: new @nobody { b: 1 } }", "template u { } template @t { a: new u b: new t }",
    "document { a: 1 b: 2 * @c + a }", 'list l (p: number) [ { p: 1 @q: "x" } ]',
    'document { n: 1 a: if n = @"" then 1 else 2 }', "list l (p: number) [ { p: 1 } @{ } ]",
    "template t { a: 1 } @document { a: b b: 2 * a }",
]


class Gaps(unittest.TestCase):
    def test_same_tokens(self):
        chance = random.Random(1)
        for _, made, _ in sound().worlds[:60]:
            for _, text in made.files:
                parts = [token for _, token in tokens(text)]
                other, starts = spaced(parts, chance)
                self.assertEqual(list(tokens(other)), list(zip(starts, parts)))

    def test_same_outputs(self):
        chance = random.Random(2)
        for _, made, _ in sound().worlds[:100]:
            files = [(name, spaced([token for _, token in tokens(text)], chance)[0]) for name, text in made.files]
            other = Project(tuple(files))
            self.assertEqual([output(other, file) for file in other.documents], [output(made, file) for file in made.documents])
            self.assertEqual([labelled(other, file) for file in other.documents],
                             [labelled(made, file) for file in made.documents])
            self.assertEqual(things(other), things(made))
            for place in places(made) + hidden_places(made):
                self.assertEqual(value_of(other, place), value_of(made, place))
                self.assertEqual(levels(other, place), levels(made, place))
                self.assertEqual([definition(other, spot) for spot in levels(made, place)],
                                 [definition(made, spot) for spot in levels(made, place)])

    def test_same_errors_at_the_same_tokens(self):
        chance = random.Random(3)
        words = set()
        for text in FAULTS:
            plain, at = marked(text)
            found = fault(plain)
            self.assertEqual(found[1:], ("main", at), text)
            words.add(found[0])
            parts = list(tokens(plain))
            number = [start for start, _ in parts + [(len(plain), "")]].index(at)
            for _ in range(30):
                other, starts = spaced([token for _, token in parts], chance)
                # At the end of the text the gap counts, too.
                index = starts[number] if number < len(parts) else len(other)
                self.assertEqual(fault(other), (found[0], "main", index), other)
        self.assertEqual(words, {"form", "import", "twice", "name", "ring", "field", "kind", "circle"})

    def test_same_signs(self):
        chance = random.Random(4)
        for bad in ("01", "A", '"', '"a\n"', '"' + "x" * 61 + '"', "/", "00", "!"):
            for before in ([], ["document", "{", "a", ":"], ["document", "{", "}"]):
                text, starts = spaced(before, chance)
                self.assertEqual(fault(text + bad), ("sign", "main", starts[-1]), text + bad)


class Apart(unittest.TestCase):
    LISTS = 'list goods (p: number) [ { p: 3 } { p: -1 } ]'
    BASE = 'template line { size: 2 * w let w: 4 }'
    MORE = 'template box { rows: for g in goods where g.p = 3 give line { w: g.p } one: new line } template wide = box { one: { w: 7 } }'
    DOCUMENT = 'document { a: new wide b: new box { one: { w: a.one.size } } c: for g in goods give wide { one: { w: g.p } } }'

    def test_in_one_and_in_three_files(self):
        one = project(" ".join((self.LISTS, self.BASE, self.MORE, self.DOCUMENT)))
        # A file does not know what the files that it imports import.
        two = project(main="import lib " + self.DOCUMENT, lib=" ".join((self.LISTS, self.BASE, self.MORE)))
        three = project(main="import lib import base " + self.DOCUMENT, lib="import base " + self.MORE,
                        base=self.LISTS + self.BASE)
        for other in (two, three):
            self.assertEqual(labelled(other, "main"), labelled(one, "main"))
            self.assertEqual((places(other), hidden_places(other), rows_places(other)),
                             (places(one), hidden_places(one), rows_places(one)))
            self.assertEqual(things(other), things(one))
            for thing in things(one):
                self.assertEqual(worth(other, thing), worth(one, thing))
        self.assertEqual(levels(three, ("main", ("a", "one", "w"))), (
            ("main", "", ("a", "one", "w")), ("lib", "wide", ("one", "w")), ("lib", "box", ("one", "w")), ("base", "line", ("w",))))

    def test_what_an_import_does_not_bring(self):
        self.assertEqual(fault(main="import lib " + self.DOCUMENT, lib="import base " + self.MORE, base=self.LISTS + self.BASE)[0],
                         "name")

    def test_randomly(self):
        """All that worlds have in files of their own put into one file."""
        count = 0
        for world, made, _ in sound().worlds:
            if len(world.files) < 2 or "main" not in made.documents:
                continue
            count += 1
            parts = []
            for file in world.files:
                text = world.text_of(file).split("\n")
                parts += [line for line in text if not line.startswith(("import", "document"))]
            parts.append([line for line in made["main"].split("\n") if line.startswith("document")][0])
            self.assertEqual(output(project("\n".join(parts)), "main"), output(made, "main"))
        self.assertGreater(count, 30)


class OneMore(unittest.TestCase):
    def candidates(self, world):
        """The overriding bodies of templates and uses, with the number and text fields that they do not give."""
        for owner in list(world.templates.values()) + list(world.documents.values()):
            base = world.base(owner)
            if owner["parent"]:
                yield owner["fields"], base
            else:
                for entry in owner["fields"].values():
                    value = entry["value"]
                    if value["form"] in ("new", "loop"):
                        if value["body"] is None:
                            value["body"] = {}
                        yield value["body"], world.base(world.templates[value["template"]])

    def test_a_definition_more(self):
        """A literal at a spot where nothing stood: just the values whose trace goes past it, and their readers, may change."""
        count = 0
        for world, made, _ in sound().worlds[:120]:
            chance = random.Random(count)
            free = []
            for body, base in self.candidates(world):
                for name, entry in base["fields"].items():
                    if name not in body and entry["value"]["form"] in ("literal", "copy", "sum", "choice"):
                        free.append((body, name, entry["value"]["kind"]))
            if not free:
                continue
            body, name, kind = chance.choice(free)
            body[name] = {"form": "literal", "kind": kind, "worth": 77 if kind == "number" else "new"}
            try:
                self.compare(made, Project(world.texts()), body[name]["worth"])
                count += 1
            finally:
                del body[name]
        self.assertGreater(count, 40)

    def compare(self, old, new, worth_there):
        spots = {spot for place in places(old) + hidden_places(old) for spot in levels(old, place)}
        changed = [spot for spot in spots if definition(new, spot) != definition(old, spot)]
        touched = set()
        for spot in changed:
            self.assertIsNone(definition(old, spot))
            self.assertEqual(definition(new, spot), ("literal", worth_there))
            touched |= set(readers(old, spot))
            for thing in readers(old, spot):
                if thing in things(new):
                    self.assertEqual(worth(new, thing), worth_there)
        while True:
            more = {thing for thing in things(old)
                    if any(step[0] == "read" and step[1] in touched for step in trace(old, thing))}
            if more <= touched:
                break
            touched |= more
        for thing in set(things(old)) & set(things(new)) - touched:
            self.assertEqual(worth(new, thing), worth(old, thing))


class Written(unittest.TestCase):
    def test_more_fewer_and_other_items_again_and_again(self):
        chance = random.Random(5)
        for _ in range(40):
            count = chance.randrange(5)
            made = project(self.text(count, chance))
            serials, following = tuple(range(count)), count
            for _ in range(8):
                count = chance.randrange(8)
                made = made.written("main", self.text(count, chance))
                fresh = max(0, count - len(serials))
                serials = serials[:count] + tuple(range(following, following + fresh))
                following += fresh
                self.assertEqual((made.serials("main", "goods"), made.next_serial("main", "goods")), (serials, following))
                self.assertEqual(tuple(serial for serial, _ in labelled(made, "main")[0][1]), serials)
                # The output is told by the texts alone, whatever the serials are.
                self.assertEqual(output(made, "main"), output(project(made["main"]), "main"))

    def text(self, count, chance):
        items = " ".join(f"{{ p: {chance.randrange(9)} }}" for _ in range(count))
        return f"list goods (p: number) [ {items} ] template t {{ a: 0 }} document {{ r: for g in goods give t {{ a: g.p }} }}"


class Large(unittest.TestCase):
    def test_templates_derived_fourteen_times(self):
        words = [letter * 2 for letter in "abcdefghijklmno"]
        text = "template aa { x: 0 y: x + 1 let z: 2 * y }"
        for at in range(1, 15):
            given = f"x: {at}" if at % 3 == 0 else f"y: x + {at}" if at % 3 == 1 else ""
            text += f" template {words[at]} = {words[at - 1]} {{ {given} }}"
        for at in range(15):
            made = project(text + f" document {{ u: new {words[at]} }}")
            x = at - at % 3
            y = x + (1 if at == 0 else at - (at - 1) % 3)
            self.assertEqual(output(made, "main"), (("u", (("x", x), ("y", y))),))
            self.assertEqual(value_of(made, ("main", ("u", "z"))), 2 * y)
            self.assertEqual(len(levels(made, ("main", ("u", "x")))), at + 2)

    def test_records_twelve_deep(self):
        text, names = "template ta { v: 1 w: 2 * v }", "abcdefghijkl"
        for before, name in zip(names, names[1:]):
            text += f" template t{name} {{ {before}: new t{before} }}"
        path = tuple(reversed(names[:-1]))
        body = "v: 5"
        for name in names[:-1]:
            body = f"{name}: {{ {body} }}"
        made = project(text + f" document {{ top: new tl {{ {body} }} far: top.{'.'.join(path)}.w }}")
        self.assertEqual(value_of(made, ("main", ("far",))), 10)
        self.assertEqual(len(levels(made, ("main", ("top",) + path + ("v",)))), 13)
        expected = (("v", 5), ("w", 10))
        for name in names[:-1]:
            expected = ((name, expected),)
        self.assertEqual(output(made, "main"), (("top", expected), ("far", 10)))

    def test_rows_within_rows_of_eleven_items(self):
        items = " ".join(f"{{ p: {n} q: {n % 3} }}" for n in range(11))
        made = project(f"list l (p: number, q: number) [ {items} ] template leaf {{ v: 0 }} "
                       "template twig { k: 0 leaves: for g in l where g.q = k give leaf { v: g.p + k } } "
                       "document { twigs: for g in l give twig { k: g.q } }")
        rows = tuple((n, (("k", n % 3), ("leaves", tuple((m, (("v", m + n % 3),)) for m in range(11) if m % 3 == n % 3))))
                     for n in range(11))
        self.assertEqual(labelled(made, "main"), (("twigs", rows),))
        self.assertEqual(len(rows_places(made)), 12)
        self.assertEqual(len(places(made)), 11 + 4 * 4 + 4 * 4 + 3 * 3)


if __name__ == "__main__":
    unittest.main()
