"""Points 6 and 4: plans, what they cost, and the projects that they give."""

import copy
import inspect
import random
import unittest

from helping import ANY, project
from planning import COSTS, changed_world, otherwise, random_plan, second_cost, second_is_plan
from randomly import Output, sound
from sourceback.errors import BadPlan, NoSpot
from sourceback.places import definition, hidden_places, levels, places
from sourceback.plans import cost_of, is_plan, made
from sourceback.projects import Project
from sourceback.values import labelled, output, shown, value_of

LIB = """
list goods (p: number, t: text) [ { p: 1 t: "a" } { t: "b" p: 2 } { p: -3 t: "a" } ]
list bare () [ { } { } ]
template line { size: 2 let name: "x" }
template thick = line { size: 5 }
template shelf { want: "a" rows: for g in goods where g.t = want give line { size: g.p } edge: new thick }
template tall = shelf { want: "b" edge: { name: "e" } }
"""
MAIN = """
import lib
list none (q: text) [ ]
document {
    one: new shelf { want: "b" }
    two: new tall
    veil: new thick { name: one.want }
    all: for g in goods give line { name: g.t }
    k: 1 let h: "s"
    c: if k = 1 then k else 2 * k
    e: for n in none give tall
}
"""
# For each open spot: its literal (None for none) and whether it can be gone; a literal of its kind.
OPEN = {
    ("lib", "line", ("size",)): (2, False, 7), ("lib", "line", ("name",)): ("x", False, "y"),
    ("lib", "thick", ("size",)): (5, True, 7), ("lib", "thick", ("name",)): (None, False, "y"),
    ("lib", "shelf", ("want",)): ("a", False, "y"), ("lib", "shelf", ("rows", "*", "name")): (None, False, "y"),
    ("lib", "shelf", ("edge", "size")): (None, False, 7), ("lib", "shelf", ("edge", "name")): (None, False, "y"),
    ("lib", "tall", ("want",)): ("b", True, "y"),
    ("lib", "tall", ("edge", "size")): (None, False, 7), ("lib", "tall", ("edge", "name")): ("e", True, "y"),
    ("main", "", ("one", "want")): ("b", True, "y"), ("main", "", ("one", "edge", "size")): (None, False, 7),
    ("main", "", ("one", "edge", "name")): (None, False, "y"), ("main", "", ("two", "want")): (None, False, "y"),
    ("main", "", ("two", "edge", "size")): (None, False, 7), ("main", "", ("two", "edge", "name")): (None, False, "y"),
    ("main", "", ("veil", "size")): (None, False, 7), ("main", "", ("all", "*", "size")): (None, False, 7),
    ("main", "", ("k",)): (1, False, 7), ("main", "", ("h",)): ("s", False, "y"),
    ("main", "", ("e", "*", "want")): (None, False, "y"), ("main", "", ("e", "*", "edge", "size")): (None, False, 7),
    ("main", "", ("e", "*", "edge", "name")): (None, False, "y"),
    ("lib", "goods", (0, "p")): (1, False, 7), ("lib", "goods", (0, "t")): ("a", False, "y"),
    ("lib", "goods", (1, "p")): (2, False, 7), ("lib", "goods", (1, "t")): ("b", False, "y"),
    ("lib", "goods", (2, "p")): (-3, False, 7), ("lib", "goods", (2, "t")): ("a", False, "y"),
}
SHUT = [
    (("lib", "shelf", ("rows", "*", "size")), 7), (("main", "", ("veil", "name")), "y"), (("main", "", ("all", "*", "name")), "y"),
    (("main", "", ("c",)), 7),
]
NONE = [
    ("main", "", ("one",)), ("main", "", ("one", "edge")), ("main", "", ("one", "rows")), ("main", "", ("one", "rows", "*", "size")),
    ("main", "", ("one", "rows", 0, "size")), ("main", "", ("all", 0, "size")), ("main", "", ("all", "size")), ("main", "", ("x",)),
    ("main", "", ()), ("lib", "", ("one", "want")), ("lib", "tall", ("rows", "*", "size")), ("main", "tall", ("want",)),
    ("lib", "goods", (3, "p")), ("lib", "goods", (-1, "p")), ("lib", "goods", (True, "p")), ("lib", "goods", (0, "q")),
    ("lib", "goods", (0,)), ("lib", "goods", ("p",)), ("lib", "goods", (0, "p", "p")), ("lib", "bare", (0, "p")),
    ("main", "goods", (0, "p")), ("main", "none", (0, "q")), ("nofile", "", ("k",)), ("lib", "nobody", ("size",)),
    ("lib", "line", ("*",)), ("lib", "line", (0,)), ("lib", "line", ("size", "size")), ("lib", "line", ["size"]), ("lib", "line", "size"),
]
NEW = (("order", "lib", "goods", (3, 0, 1, 2)), ("set", ("lib", "goods", (3, "p")), 5), ("set", ("lib", "goods", (3, "t")), "b"))


class OnePlan(unittest.TestCase):
    def setUp(self):
        self.project = project(MAIN, lib=LIB)

    def tells(self, plan, expected, **more):
        before = copy.deepcopy(plan)
        found = is_plan(self.project, plan, **more)
        self.assertIs(found, expected, (plan, more))
        self.assertEqual(plan, before)

    def test_the_table_is_whole(self):
        spots = {spot for place in places(self.project) + hidden_places(self.project) for spot in levels(self.project, place)}
        self.assertLessEqual(spots, set(OPEN) | {spot for spot, _ in SHUT})
        for spot, (old, _, _) in OPEN.items():
            self.assertEqual(definition(self.project, spot), None if old is None else ("literal", old))
        for spot, _ in SHUT:
            self.assertEqual(definition(self.project, spot)[0], "expression")

    def test_nothing(self):
        self.tells((), True)
        self.assertEqual(made(self.project, ()), self.project)
        self.assertEqual(cost_of(self.project, ()), 0)

    def test_sets(self):
        for spot, (old, _, new) in OPEN.items():
            other = "y" if new == 7 else 7
            self.tells((("set", spot, new),), True)
            self.tells((("set", spot, other),), False)
            for wrong in (None, True, (), [], 1.5, [new], {"a": new}):
                self.tells((("set", spot, wrong),), False)
            if old is not None:
                self.tells((("set", spot, old),), False)
            if new == 7:
                for number in (0, -1, 10 ** 12, -10 ** 40):
                    self.tells((("set", spot, number),), True)
            else:
                for text in ("", " ", "x" * 60, "; | # { } ' ~ new 0"):
                    self.tells((("set", spot, text),), True)
                for text in ("x" * 61, '"', "\\", "\n", "\t", "\u00e9", "\x7f", "\x1f"):
                    self.tells((("set", spot, text),), False)

    def test_gones(self):
        for spot, (old, can_go, _) in OPEN.items():
            self.tells((("gone", spot),), can_go)

    def test_spots_that_are_shut(self):
        for spot, new in SHUT:
            self.tells((("set", spot, new),), False)
            self.tells((("gone", spot),), False)

    def test_spots_that_are_not_there(self):
        for spot in NONE + ANY:
            for literal in (7, "y"):
                self.tells((("set", spot, literal),), False)
            self.tells((("gone", spot),), False)

    def test_locked_files_are_shut_for_is_plan_alone(self):
        for locked in ((), ("lib",), ("main",), ("main", "lib"), ("lib", "lib"), ("nofile",)):
            for spot, (old, can_go, new) in OPEN.items():
                self.tells((("set", spot, new),), spot[0] not in locked, locked=locked)
                self.tells((("gone", spot),), can_go and spot[0] not in locked, locked=locked)
            self.tells(NEW, "lib" not in locked, locked=locked)
            self.tells((("order", "lib", "bare", (1, 0)),), "lib" not in locked, locked=locked)
            self.tells((), True, locked=locked)
        for plan in ((("set", ("lib", "line", ("size",)), 3),), NEW):
            self.assertEqual(cost_of(self.project, plan), 2 if len(plan) == 1 else 3)
            self.assertNotEqual(made(self.project, plan), self.project)

    def test_orders(self):
        good = [(0, 2, 1), (2, 1, 0), (0, 1), (2,), ()]
        bad = [(0, 1, 2), (0, 0, 1), (0, 1, 2, 2), (0, 1, -1), (0, 1, 4), (0, 1, 2, 3), (0, 1, True), (False, 2, 1), (0, "1"), (0, None)]
        for serials in good:
            self.tells((("order", "lib", "goods", serials),), True)
            self.tells((("order", "lib", "goods", list(serials)),), False)
        for serials in bad:
            self.tells((("order", "lib", "goods", serials),), False)
        for file, name in (("main", "goods"), ("lib", "line"), ("lib", ""), ("nofile", "goods"), ("lib", "none"), (None, "goods"), ("lib", 0), ([], {})):
            self.tells((("order", file, name, (1, 0)),), False)
        for serials in ((1, 0), (0,), (1,), (), (2, 0, 1), (3, 2), (2,), (0, 1, 2, 3)):
            self.tells((("order", "lib", "bare", serials),), True)
        for serials in ((0, 1), (3,), (0, 1, 3), (2, 4)):
            self.tells((("order", "lib", "bare", serials),), False)

    def test_new_items_have_all_fields(self):
        self.tells(NEW, True)
        for at in range(1, len(NEW)):
            self.tells(NEW[:at] + NEW[at + 1:], False)
        self.tells(NEW[1:], False)
        self.tells(NEW + (("set", ("lib", "goods", (4, "p")), 5),), False)
        self.tells(NEW[:2] + (("set", ("lib", "goods", (3, "t")), 5),), False)
        self.tells(NEW[:2] + (("set", ("lib", "goods", (3, "t")), '"'),), False)
        self.tells((NEW[0], ("gone", ("lib", "goods", (3, "p"))), NEW[2]), False)
        two = (("order", "lib", "goods", (4, 0, 3)),) + tuple(
            ("set", ("lib", "goods", (serial, field)), worth) for serial in (3, 4) for field, worth in (("p", 0), ("t", "")))
        self.tells(two, True)
        self.tells((("order", "lib", "goods", (4, 0)),) + two[3:], False)

    def test_items_that_are_left_out_are_not_set(self):
        order = ("order", "lib", "goods", (0, 2))
        self.tells((order, ("set", ("lib", "goods", (0, "p")), 7)), True)
        self.tells((order, ("set", ("lib", "goods", (1, "p")), 7)), False)

    def test_at_most_one_deed_for_each_spot_and_list(self):
        spot = ("lib", "thick", ("size",))
        self.tells((("gone", spot), ("gone", spot)), False)
        self.tells((("gone", spot), ("set", spot, 7)), False)
        self.tells((("set", spot, 7), ("set", spot, 7)), False)
        self.tells((("set", spot, 7), ("set", spot, 8)), False)
        self.tells((("set", spot, 7), ("set", spot, "y")), False)
        self.tells((("order", "lib", "goods", (0, 1)), ("order", "lib", "goods", (0, 2))), False)
        self.tells((("order", "lib", "bare", (1, 0)), ("order", "lib", "goods", (0, 1))), True)

    def test_ascending(self):
        deeds = [("gone", ("lib", "tall", ("want",))), ("order", "lib", "goods", (1, 0, 2)), ("set", ("lib", "goods", (2, "p")), 0),
                 ("set", ("lib", "line", ("size",)), 0), ("set", ("main", "", ("k",)), 3)]
        self.tells(tuple(deeds), True)
        self.tells(deeds, False)
        self.tells(tuple(deeds[::-1]), False)
        for at in range(1, len(deeds)):
            self.tells(tuple(deeds[:at - 1] + [deeds[at], deeds[at - 1]] + deeds[at + 1:]), False)

    def test_values_of_all_kinds(self):
        good = ("set", ("lib", "line", ("size",)), 7)
        more = [good, [good], (list(good),), ((good,),), good + (1,), (good[:2],), (("gone",) + good[1:],), (("take", good[1]),),
                (("Set",) + good[1:],), ((None,) + good[1:],), (good, None), (None, good), (("order",),), (("order", "lib", "goods"),),
                (("order", "lib", "goods", (1, 0, 2), 1),), (("order", "lib", "goods", 3),), {good: 1}, ((),)]
        for value in ANY + more:
            if value != ():
                self.tells(value, False)
                for ask in (made, cost_of):
                    before = copy.deepcopy(value)
                    with self.assertRaises(BadPlan) as caught:
                        ask(self.project, value)
                    self.assertIs(caught.exception.value, value)
                    self.assertEqual(value, before)

    def test_costs_of_single_deeds(self):
        prices = {"change": 11, "add": 12, "cut": 13, "remove": 14, "move": 15, "delete": 16, "insert": 17}
        for spot, (old, can_go, new) in OPEN.items():
            expected = "add" if old is None else "change"
            self.assertEqual(cost_of(self.project, (("set", spot, new),)), COSTS[expected], spot)
            self.assertEqual(cost_of(self.project, (("set", spot, new),), **prices), prices[expected], spot)
            if can_go:
                self.assertEqual(cost_of(self.project, (("gone", spot),)), 2)
                self.assertEqual(cost_of(self.project, (("gone", spot),), remove=9, change=1), 9)

    def test_cut(self):
        """A set hides an expression if the first definition behind it is one."""
        found = project("template t { a: 1 b: a c: b } template u = t { b: 3 } template v = u { c: 2 * a } "
                        "document { x: new t y: new u z: new v w: new u { b: 2 * x.a } }")
        expected = {("x", "b"): 4, ("x", "c"): 4, ("x", "a"): 3, ("y", "b"): 3, ("y", "c"): 4, ("z", "c"): 4, ("z", "b"): 3}
        for path, cost in expected.items():
            plan = (("set", ("main", "", path), 50),)
            self.assertEqual(cost_of(found, plan), cost, path)
            self.assertEqual(value_of(made(found, plan), ("main", path)), 50)
        self.assertFalse(is_plan(found, (("set", ("main", "", ("w", "b")), 50),)))
        # In the project as it is: that the definition behind goes with the same plan does not count.
        plan = (("gone", ("main", "u", ("b",))), ("set", ("main", "", ("y", "b")), 50))
        self.assertEqual(cost_of(found, plan), 5)

    def test_costs_of_orders(self):
        expected = {(0, 2, 1): 1, (2, 1, 0): 2, (1, 2, 0): 1, (0, 1): 2, (2, 0): 3, (): 6, (1,): 4}
        for serials, cost in expected.items():
            plan = (("order", "lib", "goods", serials),)
            self.assertEqual(cost_of(self.project, plan), cost)
            self.assertEqual(cost_of(self.project, plan, delete=9, move=3, insert=1), 9 * (3 - len(serials)) + {
                (0, 2, 1): 3, (2, 1, 0): 6, (1, 2, 0): 3, (2, 0): 3}.get(serials, 0))
        self.assertEqual(cost_of(self.project, (("order", "lib", "bare", (3, 1, 2, 0)),)), 7)
        self.assertEqual(cost_of(self.project, NEW), 3)
        self.assertEqual(cost_of(self.project, NEW, insert=8, change=1, add=1, cut=1), 8)

    def test_costs_by_name_only(self):
        found = inspect.signature(cost_of)
        with self.assertRaises(TypeError):
            cost_of(self.project, (), 1)
        with self.assertRaises(TypeError):
            cost_of(self.project, (), price=1)
        with self.assertRaises(TypeError):
            is_plan(self.project, (), ())
        self.assertEqual(list(found.parameters)[:2], ["project", "plan"])
        self.assertEqual(cost_of(plan=NEW, project=self.project, insert=1), 1)


class ByChance(unittest.TestCase):
    """Plans of worlds, told a second way."""

    def plans(self, seed, many):
        chance = random.Random(seed)
        for world, found, _ in sound().worlds[:many]:
            plan = random_plan(world, chance, chance.choice((0.1, 0.3, 0.6)))
            yield world, found, plan, chance

    def test_plans(self):
        changed = 0
        for world, found, plan, chance in self.plans(1, 400):
            self.assertTrue(second_is_plan(world, plan))
            self.assertIs(is_plan(found, plan), True, (found.files, plan))
            for locked in (("main",), ("alfa",), ("zeta", "alfa")):
                self.assertIs(is_plan(found, plan, locked=locked), second_is_plan(world, plan, locked))
            for _ in range(6):
                value = otherwise(plan, chance)
                before = copy.deepcopy(value)
                expected = second_is_plan(world, value)
                changed += expected
                self.assertIs(is_plan(found, value), expected, (found.files, value))
                self.assertEqual(value, before)
        self.assertGreater(changed, 50)

    def test_costs(self):
        for world, found, plan, chance in self.plans(2, 400):
            self.assertEqual(cost_of(found, plan), second_cost(world, plan))
            costs = {name: chance.randrange(1, 10) for name in COSTS}
            self.assertEqual(cost_of(found, plan, **costs), second_cost(world, plan, **costs))
            name = chance.choice(list(COSTS))
            self.assertEqual(cost_of(found, plan, **{name: 9}), second_cost(world, plan, **{name: 9}))

    def test_outputs_and_definitions(self):
        for world, found, plan, _ in self.plans(3, 250):
            after = made(found, plan)
            expected = Project(changed_world(world, plan).texts())
            anew = Project(after.files)
            self.assertEqual(anew, after)
            for file in found.documents:
                self.assertEqual(output(after, file), output(expected, file))
                self.assertEqual(output(after, file), output(anew, file))
            sets = {deed[1]: deed[2] for deed in plan if deed[0] == "set"}
            for place in places(after) + hidden_places(after):
                for spot in levels(after, place):
                    if spot in sets:
                        self.assertEqual(definition(after, spot), ("literal", sets[spot]))
                    elif ("gone", spot) in plan:
                        self.assertIsNone(definition(after, spot))
                    else:
                        self.assertEqual(definition(after, spot), definition(found, spot))
            for key, table in world.lists.items():
                orders = [deed[3] for deed in plan if deed[:1] + deed[1:3] == ("order",) + key]
                serials = orders[0] if orders else tuple(range(len(table["items"])))
                self.assertEqual(after.serials(*key), serials)
                self.assertEqual(after.next_serial(*key), max(serials + (len(table["items"]) - 1,)) + 1)

    def test_deed_by_deed(self):
        """In any sequence; an order goes with all sets of its list."""
        for world, found, plan, chance in self.plans(4, 150):
            parts = {}
            for deed in plan:
                key = deed[1:3] if deed[0] == "order" else deed[1][:2]
                parts.setdefault(key if key in world.lists else deed, []).append(deed)
            groups = list(parts.values())
            chance.shuffle(groups)
            after = found
            for group in groups:
                after = made(after, tuple(group))
            self.same(after, made(found, plan), world)

    def same(self, one, other, world):
        for file in one.documents:
            self.assertEqual(labelled(one, file), labelled(other, file))
        for place in places(one) + hidden_places(one):
            for spot in levels(one, place):
                self.assertEqual(definition(one, spot), definition(other, spot))
        for key in world.lists:
            self.assertEqual((one.serials(*key), one.next_serial(*key)), (other.serials(*key), other.next_serial(*key)))

    def test_a_plan_and_the_one_that_takes_it_back(self):
        for world, found, plan, _ in self.plans(5, 250):
            if any(deed[0] == "order" for deed in plan):
                continue
            after = made(found, plan)
            back = []
            for deed in plan:
                old = definition(found, deed[1])
                back.append(("gone", deed[1]) if old is None else ("set", deed[1], old[1]))
            back = tuple(sorted(back))
            self.assertTrue(is_plan(after, back))
            self.same(made(after, back), found, world)

    def test_arguments_stay(self):
        for _, found, plan, _ in self.plans(6, 40):
            files, before = found.files, copy.deepcopy(plan)
            one = made(found, plan)
            self.assertEqual((found.files, plan), (files, before))
            self.assertEqual(made(project=found, plan=plan), one)


class Serials(unittest.TestCase):
    """Plans one behind the other on lists that lose and get items."""

    def text(self, items):
        goods = " ".join(f'{{ p: {number} t: "{word}" }}' for number, word in items)
        return (f'list goods (p: number, t: text) [ {goods} ] template line {{ p: 0 t: "" }} '
                'document { all: for g in goods give line { p: g.p t: g.t } some: for g in goods where g.t = "a" give line }')

    def test_five_plans(self):
        chance = random.Random(7)
        for _ in range(60):
            items = {serial: (chance.randrange(9), chance.choice("ab")) for serial in range(chance.randrange(5))}
            order, following = tuple(items), len(items)
            found = project(self.text(items.values()))
            for _ in range(5):
                left = [serial for serial in order if chance.random() < 0.7]
                fresh = list(range(following, following + chance.randrange(3)))
                new = left + fresh
                chance.shuffle(new)
                deeds = [("order", "main", "goods", tuple(new))] if tuple(new) != order else []
                new = tuple(new)
                for serial in fresh:
                    items[serial] = (chance.randrange(9), chance.choice("ab"))
                    deeds += [("set", ("main", "goods", (serial, field)), worth) for field, worth in zip("pt", items[serial])]
                for serial in left:
                    if chance.random() < 0.3:
                        items[serial] = (items[serial][0] + 10, items[serial][1])
                        deeds.append(("set", ("main", "goods", (serial, "p")), items[serial][0]))
                gone = [serial for serial in range(following) if serial not in new]
                order, following = new, following + len(fresh)
                found = made(found, tuple(sorted(deeds)))
                self.check(found, items, order, following, gone)

    def check(self, found, items, order, following, gone):
        self.assertEqual(found.serials("main", "goods"), order)
        self.assertEqual(found.next_serial("main", "goods"), following)
        self.assertEqual(shown(found, ("main", ("all",))), order)
        self.assertEqual(shown(found, ("main", ("some",))), tuple(serial for serial in order if items[serial][1] == "a"))
        rows = tuple((serial, (("p", items[serial][0]), ("t", items[serial][1]))) for serial in order)
        self.assertEqual(labelled(found, "main")[0], ("all", rows))
        self.assertEqual(output(found, "main")[0], ("all", tuple(record for _, record in rows)))
        for serial in order:
            self.assertEqual(definition(found, ("main", "goods", (serial, "p"))), ("literal", items[serial][0]))
        for serial in gone + [following]:
            with self.assertRaises(NoSpot):
                definition(found, ("main", "goods", (serial, "p")))
            self.assertFalse(is_plan(found, (("set", ("main", "goods", (serial, "p")), 50),)))
        self.assertEqual(output(project(found["main"]), "main"), output(found, "main"))

    def test_written_behind_a_plan(self):
        found = made(project(self.text([(1, "a"), (2, "b"), (3, "a")])), (("order", "main", "goods", (2, 0)),))
        more = found.written("main", self.text([(5, "a"), (6, "a"), (7, "b")]))
        self.assertEqual((more.serials("main", "goods"), more.next_serial("main", "goods")), ((2, 0, 3), 4))


if __name__ == "__main__":
    unittest.main()
