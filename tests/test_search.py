"""Point 6: the selections with the least cost, against all selections tried one by one."""

import copy
import random
import re
import unittest

from editing import Ground, sound_edit, visible
from helping import ANY, project
from planning import COSTS
from small import FACTORS, reachable, small_worlds, somewhere, told
from sourceback.edits import wish_of, wished
from sourceback.errors import BadEdit, Refused, StepError, TooLarge
from sourceback.leading import lead, shows_led
from sourceback.plans import cost_of
from sourceback.projects import Project
from sourceback.search import selections
from sourceback.values import labelled
from test_examples import PEOPLE, SUMS, THREE, drag
from worlds import Written


def patterns(chance):
    """Texts of main, with numbers by chance."""
    def n():
        return chance.randrange(6)

    def f():
        return chance.choice(FACTORS)

    def s():
        return chance.choice(('"a"', '"b"', '""'))
    return [
        f"document {{ let a: {n()} let b: {n()} let c: {n()} s: {f()} * a + {f()} * b - {f()} * c + {n()} q: {f()} * a - {f()} * b }}",
        f"document {{ let a: {n()} let b: {n()} let c: {n()} let d: {n()} s: {f()} * a + {f()} * b + {f()} * c + {f()} * d r: {f()} * c - d t: a }}",
        f"template t {{ a: {n()} b: {f()} * a let c: {n()} d: a + c }} template w = t {{ a: {n()} }} document {{ x: new t y: new w z: new w {{ c: {n()} }} }}",
        f"template t {{ a: {n()} b: {f()} * a }} template w = t {{ a: {n()} }} template v = w {{ b: {n()} }} document {{ x: new t y: new w z: new v }}",
        f"template t {{ a: {n()} let b: {f()} * a c: b + {n()} }} document {{ p: {n()} x: new t {{ a: p }} y: new t {{ b: 2 * p }} z: new t }}",
        f"document {{ let m: {s()} n: m o: if m = {s()} then n else {s()} p: if n = {s()} then o else m let q: {s()} r: q }}",
        f"document {{ let h: {n()} k: 1 let n: {n()} let m: {n()} a: if k = 1 then n else m b: k c: if k = 2 then h else {f()} * n }}",
        f"document {{ let h: 1 let n: {n()} let m: {n()} a: if h = 1 then n else m b: if h = 1 then {f()} * n else m c: if h = 2 then n else {n()} }}",
        f"document {{ let h: 1 let g: if h = 1 then {n()} else n let n: {n()} a: if g = 3 then h else {f()} * n b: if h = {n()} then g else n }}",
        f"template t {{ let h: 1 let n: {n()} a: if h = 1 then n else {f()} * n }} document {{ x: new t y: new t {{ n: {n()} }} z: new t {{ h: 2 }} }}",
        f"template t {{ let m: {n()} a: {f()} * m }} template w = t {{ a: {n()} }} document {{ u: new w {{ m: {n()} }} v: new w {{ m: {n()} }} }}",
        f"template leaf {{ v: {n()} w: v }} template twig {{ k: {n()} leaf: new leaf {{ v: {f()} * k }} }} "
        f"document {{ let p: {n()} a: new twig {{ k: p }} b: new twig {{ leaf: {{ v: p + {n()} }} }} }}",
        f"template leaf {{ v: {n()} }} template twig {{ k: {n()} leaf: new leaf }} template bough = twig {{ leaf: {{ v: k }} k: {n()} }} "
        f"document {{ let p: {n()} a: new bough {{ leaf: {{ v: 2 * p }} }} b: new bough c: new twig }}",
        f"list l (x: number) [ {{ x: {n()} }} {{ x: {n()} }} ] template t {{ v: 0 let u: {n()} w: u }} "
        f"document {{ let k: {n()} r: for g in l where g.x = k give t {{ v: {f()} * g.x }} }}",
        f"list l (x: number, y: number) [ {{ x: 1 y: {n()} }} {{ x: 2 y: {n()} }} ] template t {{ v: 0 }} "
        f"document {{ a: for g in l where g.x = 1 give t {{ v: g.y }} b: for g in l give t {{ v: if g.x = 1 then g.y else {n()} }} }}",
        f"template t {{ a: {n()} }} template w = t {{ a: {n()} }} document {{ x: new w y: new w {{ a: {n()} }} z: new t {{ a: {n()} }} }}",
        f"template t {{ let m: {n()} a: {f()} * m }} template w = t {{ a: {n()} }} document {{ u: new w {{ m: {n()} }} v: new w }}",
        f"template t {{ a: {n()} b: {f()} * a }} template w = t {{ b: {n()} }} document {{ x: new w y: new w {{ a: {n()} }} }}",
        f"template t {{ let h: 1 a: if h = 1 then {n()} else {n()} }} template w = t {{ a: {n()} h: 2 }} document {{ x: new w y: new t }}",
        'list p (n: text) [ { n: "A" } { n: "B" } ] list t (o: text) [ { o: "A" } { o: "B" } { o: "A" } ] template c { } '
        "template q { n: \"\" cs: for x in t where x.o = n give c } document { ps: for y in p give q { n: y.n } }",
        'list t (o: text, k: number) [ { o: "A" k: 1 } { o: "B" k: 2 } ] template c { v: 0 } '
        'document { let a: "A" b: "B" r: for x in t where x.o = a give c { v: x.k } s: for x in t where x.o = b give c { v: 2 * x.k } }',
    ]


class TriedOneByOne(unittest.TestCase):
    """Each wish: all selections with the least cost, this cost, and an edit led back with it."""

    seen = {}

    def compare(self, world, found, edit, locked, costs, most=1500):
        wish = told(world, found, edit, locked, costs)
        if wish.many() > most:
            return self.count("too many")
        try:
            chosen = list(selections(found, edit, locked=locked, **costs))
        except TooLarge as error:
            return self.count(error.word)
        except Refused as error:
            self.assertIn(error.word, ("locked", "order", "shown"))
            return self.count(error.word)
        cost, expected = wish.least()
        self.assertEqual(chosen, expected, (found.files, edit, locked, costs))
        if cost is None:
            with self.assertRaises(Refused) as caught:
                lead(found, edit, locked=locked, **costs)
            self.assertEqual(caught.exception.word, "spots")
            return self.count("none")
        self.led(world, found, edit, locked, costs, cost, expected)
        self.count("zero" if cost == 0 else "more" if len(expected) > 1 else "one")
        for word in ("gone", "set"):
            self.count(word if any(pair[1] == word for pairs in expected for pair in pairs) else "")

    def led(self, world, found, edit, locked, costs, cost, expected):
        led = lead(found, edit, locked=locked, **costs)
        new = {key: len(table["items"]) for key, table in world.lists.items()}
        pairs = tuple(sorted((deed[1], deed[0]) for deed in led.plan if deed[0] != "order"
                             and not (deed[1][:2] in new and deed[1][2][0] >= new[deed[1][:2]])))
        self.assertIn(pairs, expected)
        orders = tuple(deed for deed in led.plan if deed[0] == "order" or deed[1][:2] in new and deed[1][2][0] >= new[deed[1][:2]])
        self.assertEqual(led.cost, cost + cost_of(found, orders, **costs))
        self.assertEqual(led.cost, cost_of(found, led.plan, **costs))
        for file in found.documents:
            self.assertEqual(labelled(led.project, file), wished(found, edit, file))

    @classmethod
    def count(cls, word):
        cls.seen[word] = cls.seen.get(word, 0) + 1

    def drawn(self, chance):
        return {} if chance.random() < 0.4 else {name: chance.randrange(1, 10) for name in COSTS}

    def test_worlds_by_chance(self):
        chance = random.Random(1)
        for world, found in small_worlds(chance, 170):
            documents = {file: visible(world, owner) for file, owner in world.documents.items()}
            ground = Ground(found, documents, list(world.lists))
            for edit in (reachable(world, found, chance), reachable(world, found, chance), somewhere(found, chance), sound_edit(chance, ground, 4)[0]):
                self.compare(world, found, edit, chance.choice(((), (), ("main",), ("lib",))), self.drawn(chance))

    def test_patterns(self):
        chance = random.Random(2)
        type(self).seen = {}
        for _ in range(8):
            for text in patterns(chance):
                world, found = Written(main=text), project(text)
                ground = Ground(found, {"main": visible(world, world.documents["main"])}, list(world.lists))
                edits = [reachable(world, found, chance), somewhere(found, chance)]
                if world.lists:
                    edits += [sound_edit(chance, ground, 3)[0] for _ in range(2)]
                for edit in edits:
                    self.compare(world, found, edit, (), self.drawn(chance))
                self.compare(world, found, reachable(world, found, chance, ("gone",)), (), {"remove": 1, "change": chance.randrange(1, 10)})
        for word, least in (("none", 40), ("zero", 20), ("one", 80), ("more", 10), ("gone", 15), ("set", 100)):
            self.assertGreater(self.seen.get(word, 0), least, (word, self.seen))

    def test_two_files_of_which_none_one_or_both_are_locked(self):
        chance = random.Random(3)
        lib = "template t { a: %d b: %d * a let c: %d } template w = t { a: %d } list l (x: number) [ { x: %d } { x: 2 } ]"
        main = "import lib document { p: %d x: new w { b: p + %d } y: new t { c: %d } r: for g in l where g.x = 2 give w { a: g.x } z: new w }"
        for _ in range(30):
            texts = {"lib": lib % tuple(chance.randrange(1, 5) for _ in range(5)), "main": main % tuple(chance.randrange(5) for _ in range(3))}
            world, found = Written(**texts), project(**texts)
            for locked in ((), ("lib",), ("main",), ("main", "lib")):
                for edit in (reachable(world, found, chance), somewhere(found, chance)):
                    self.compare(world, found, edit, locked, self.drawn(chance), 3000)

    def test_what_shall_stay_is_overridden_where_that_is_cheaper(self):
        found = Project((THREE,))
        edit = (("set", ("main", ("u", "a")), 5), ("set", ("main", ("v", "a")), 5))
        t, u, v, w = ("main", "t", ("a",)), *[("main", "", (name, "a")) for name in "uvw"]
        self.assertEqual(list(selections(found, edit)), [((w, "set"), (t, "set"))])
        self.assertEqual(list(selections(found, edit, change=4)), [((u, "set"), (v, "set"))])
        self.assertEqual(list(selections(found, edit, change=3)), [((u, "set"), (v, "set")), ((w, "set"), (t, "set"))])


class Examples(unittest.TestCase):
    def test_of_the_document(self):
        gap, rim = ("main", "", ("gap",)), ("main", "", ("rim",))
        self.assertEqual(list(selections(Project((SUMS,)), (("set", ("main", ("width",)), 12),))), [((rim, "set"),)])
        self.assertEqual(list(selections(Project((SUMS,)), (("set", ("main", ("width",)), 10),))), [])
        both = (("set", ("main", ("width",)), 10), ("set", ("main", ("inner",)), 4))
        self.assertEqual(list(selections(Project((SUMS,)), both)), [((gap, "set"), (rim, "set"))])

    def test_an_edit_that_changes_nothing(self):
        for found in (Project((THREE,)), Project((PEOPLE,)), project("document { }"), project("template t { a: 1 }")):
            self.assertEqual(list(selections(found, ())), [()])
            self.assertEqual(list(selections(found, (), locked=("main",), change=9)), [()])

    def test_hidden_things_may_change_as_they_like(self):
        found = project("document { let a: 1 b: a let c: a + 1 d: 2 * c }")
        self.assertEqual(list(selections(found, (("set", ("main", ("b",)), 2),))), [])
        found = project("document { let a: 1 b: a let c: a + 1 let d: 2 * c }")
        self.assertEqual(list(selections(found, (("set", ("main", ("b",)), 2),))), [((("main", "", ("a",)), "set"),)])

    def test_fields_of_new_items_stand_in_no_selection(self):
        found = Project((PEOPLE,))
        edit = (("put", ("main", ("people", 0, "cards")), 1, 3, (("title", "d"),)),)
        self.assertEqual(list(selections(found, edit)), [()])
        edit += (("set", ("main", ("people", 0, "cards", 2, "title")), "x"),)
        self.assertEqual(list(selections(found, edit)), [((("main", "tasks", (2, "title")), "set"),)])

    def test_orders_cost_nothing_here(self):
        found = Project((PEOPLE,))
        self.assertEqual(list(selections(found, (("carry", ("main", ("people",)), 1, ("main", ("people",)), 0),))), [()])
        self.assertEqual(list(selections(found, (("take", ("main", ("people",)), 0),))), [()])
        self.assertEqual(list(selections(found, drag)), [((("main", "tasks", (2, "owner")), "set"),)])

    def test_integers_of_any_size(self):
        found = project("document { let a: 123456789 let b: 987654321 s: 999 * a + 998 * b t: a - b }")
        edit = (("set", ("main", ("s",)), 10 ** 15 + 7), ("set", ("main", ("t",)), -10 ** 12))
        self.assertEqual(list(selections(found, edit)), [])
        edit = (("set", ("main", ("s",)), 999 * 10 ** 30 + 998 * 7), ("set", ("main", ("t",)), 10 ** 30 - 7))
        self.assertEqual(list(selections(found, edit)), [((("main", "", ("a",)), "set"), (("main", "", ("b",)), "set"))])
        led = lead(found, edit)
        self.assertEqual([deed[2] for deed in led.plan], [10 ** 30, 7])

    def test_a_generator_that_raises_at_the_latest_when_its_first_item_is_requested(self):
        found = Project((PEOPLE,))
        edit = (("set", ("main", ("people", 0, "name")), "x"), ("take", ("main", ("people", 0, "cards")), 7))
        with self.assertRaises(StepError):
            next(iter(selections(found, edit)))
        with self.assertRaises(BadEdit):
            next(iter(selections(found, None)))
        going = iter(selections(Project((THREE,)), (("set", ("main", ("u", "a")), 5),)))
        self.assertEqual(next(going), ((("main", "", ("u", "a")), "set"),))
        self.assertRaises(StopIteration, next, going)

    def test_by_name(self):
        self.assertEqual(list(selections(project=Project((THREE,)), edit=(), locked=(), change=1)), [()])
        for wrong in ({"price": 1}, {"lock": ()}):
            with self.assertRaises(TypeError):
                list(selections(Project((THREE,)), (), **wrong))
        with self.assertRaises(TypeError):
            list(selections(Project((THREE,)), (), ()))


class SideBySide(unittest.TestCase):
    """Two files that have nothing to do with each other."""

    def test_costs_and_selections(self):
        chance = random.Random(5)
        count = 0
        for _ in range(4):
            texts = patterns(chance)[:12]
            for one, other in zip(texts, chance.sample(texts, len(texts))):
                alone, beside, both = project(one), project(other=other), project(one, other=other)
                first, second = somewhere(alone, chance), somewhere(beside, chance)
                costs = {name: chance.randrange(1, 10) for name in COSTS}
                try:
                    chosen = [list(selections(made, edit, **costs)) for made, edit in ((alone, first), (beside, second), (both, first + second))]
                except TooLarge:
                    continue
                self.assertEqual(chosen[2], sorted(tuple(sorted(a + b)) for a in chosen[0] for b in chosen[1]))
                if chosen[2]:
                    count += 1
                    led = [lead(made, edit, **costs) for made, edit in ((alone, first), (beside, second), (both, first + second))]
                    self.assertEqual(led[2].cost, led[0].cost + led[1].cost)
                    self.assertEqual((led[2].project["main"], led[2].project["other"]),
                                     (led[0].project["main"], led[1].project["other"]))
                    self.assertEqual(lead(both, first, **costs).project["other"], other)
        self.assertGreater(count, 4)

    def test_other_names(self):
        chance = random.Random(6)
        for _ in range(6):
            for text in patterns(chance):
                found = project(text)
                edit = somewhere(found, chance)
                words = sorted(set(re.findall(r'"[^"]*"|[a-z]+', text)) - {"template", "list", "document", "let", "new", "for", "in", "where", "give",
                                                                         "if", "then", "else", "number", "text"})
                names = {word: "z" + word[::-1] + "q" for word in words if word[0] != '"'}
                other = project(zmain=re.sub(r'"[^"]*"|[a-z]+', lambda part: names.get(part.group(), part.group()), text))
                turned = tuple((word, ("zmain", tuple(names.get(part, part) for part in path)), worth) for word, (_, path), worth in edit)
                self.assertEqual(len(list(selections(found, edit))), len(list(selections(other, turned))))
                self.assertEqual(self.cost(found, edit), self.cost(other, turned))

    def cost(self, found, edit):
        try:
            return lead(found, edit).cost
        except Refused as error:
            return error.word

    def test_ten_uses_of_two_templates(self):
        """Each template by itself: set it and override all but those that wish one value, or override all others."""
        chance = random.Random(7)
        for count in range(1, 11):
            uses = [(f"u{'abcdefghij'[at]}", chance.choice("tw")) for at in range(count)]
            old = {"t": 123456789, "w": 987654321}
            text = f"template t {{ a: {old['t']} b: 3 * a }} template w {{ a: {old['w']} }} document {{ " + " ".join(f"{name}: new {sort}" for name, sort in uses) + " }"
            values = {name: chance.choice((old[sort], 111111111, 222222222, 333333333)) for name, sort in uses}
            edit = tuple(("set", ("main", (name, "a")), values[name]) for name, _ in uses)
            edit += tuple(("set", ("main", (name, "b")), 3 * values[name]) for name, sort in uses if sort == "t")
            cost = 0
            for sort in "tw":
                wanted = [values[name] for name, other in uses if other == sort]
                others = [2 + 3 * len([value for value in wanted if value != one]) for one in set(wanted) - {old[sort]}]
                cost += min([3 * len([value for value in wanted if value != old[sort]])] + others)
            self.assertEqual(lead(project(text), edit).cost, cost)


class ManyAtOnce(unittest.TestCase):
    """Wishes of many values that hang together over templates: what was found impossible once is not tried again."""

    def check(self, text, edit, cost, count):
        found = project(text)
        led = lead(found, edit)
        self.assertEqual((led.cost, cost_of(found, led.plan)), (cost, cost))
        self.assertEqual(labelled(led.project, "main"), wished(found, edit, "main"))
        self.assertTrue(shows_led(found, edit, (led.plan, led.paper)))
        chosen = list(selections(found, edit))
        self.assertEqual(len(chosen), count)
        self.assertEqual(chosen, sorted(set(chosen)))

    def test_six_uses(self):
        text = ("template t { a: 844977979 let b: 0 c: 3 * a + 1 * b d: a - b } template w { let k: 720998172 p: 1 * k + 741703551 q: k } "
                "template v = t { a: 439870152 } document { a: new v { a: 2 } b: new v c: new v { b: 995508445 } d: new v e: new t f: new w }")
        values = [(("c", "c"), 4630237802), (("f", "q"), 7), (("b", "a"), 7), (("d", "d"), 7), (("c", "a"), 477033466), (("e", "a"), 1689955958)]
        self.check(text, tuple(("set", ("main", path), value) for path, value in values), 36, 8)

    def test_sums_of_many_hidden_numbers(self):
        chance = random.Random(8)
        names = [one + other for one in "abcd" for other in "abcde"]
        text = "document { " + " ".join(f"let {name}: 1" for name in names) + " " + " ".join(
            f"s{name}: " + " + ".join(f"{factor} * {part}" for factor, part in zip((1, 2, 3, 5), chance.sample(names, 4))) for name in names[:6]) + " }"
        found = project(text)
        edit = tuple(("set", ("main", (f"s{name}",)), 12) for name in names[:6])
        led = lead(found, edit)
        self.assertTrue(shows_led(found, edit, (led.plan, led.paper)))
        for selection in selections(found, edit):
            self.assertEqual(2 * len(selection), led.cost)

    def test_parts_that_have_nothing_to_do_with_each_other(self):
        text = " ".join(f"template t{name} {{ let a: 1 let b: 2 s: a + b }}" for name in "abcde") + " document { " + " ".join(f"{name}: new t{name}" for name in "abcde") + " }"
        self.check(text, tuple(("set", ("main", (name, "s")), 5) for name in "abcde"), 10, 2 ** 5)


class Errors(unittest.TestCase):
    def test_what_lead_raises(self):
        found = Project((PEOPLE,))
        ask = [lambda edit: list(selections(found, edit)), lambda edit: lead(found, edit)]
        for one in ask:
            for value in [value for value in ANY if value != ()] + [list(drag), drag[0]]:
                before = copy.deepcopy(value)
                with self.assertRaises(BadEdit) as caught:
                    one(value)
                self.assertIs(caught.exception.value, value)
                self.assertEqual(value, before)
            with self.assertRaises(StepError) as caught:
                one(drag + drag)
            self.assertEqual((caught.exception.index, caught.exception.word), (1, "serial"))

    def test_refused_but_for_spots(self):
        two = project("list l (n: number) [ { n: 1 } { n: 2 } ] template t { } document { a: for x in l give t b: for x in l give t }")
        a, b = ("main", ("a",)), ("main", ("b",))
        for edit, locked, word in [((("carry", a, 1, a, 0),), (), "order"), ((("take", a, 1),), (), "shown"), ((("carry", a, 1, a, 0),), ("main",), "locked")]:
            with self.assertRaises(Refused) as caught:
                list(selections(two, edit, locked=locked))
            self.assertEqual(caught.exception.word, word)
        self.assertEqual(list(selections(two, (("carry", a, 1, a, 0), ("carry", b, 1, b, 0)))), [()])

    def test_too_large_comes_ahead_of_refused(self):
        rows = " ".join(f"r{name}: for x in l give t" for name in "abcdefghijklmnopqrstu")
        large = project(f"list l () [ {{ }} {{ }} ] template t {{ }} document {{ {rows} }}")
        edit = (("take", ("main", ("ra",)), 0),)
        with self.assertRaises(TooLarge) as caught:
            list(selections(large, edit))
        self.assertEqual(caught.exception.word, "rows")


if __name__ == "__main__":
    unittest.main()
