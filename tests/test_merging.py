"""Point 11: changes, clashes, and merged edits."""

import random
import types
import unittest

from editing import GROUNDS, Both, Flat, below, pair_by_chance, sound_edit, world_grounds
from helping import ANY, project
from sourceback.edits import wish_of, wished
from sourceback.errors import BadEdit, Clash, StepError
from sourceback.merging import changes, clashes, merged

PEOPLE, TEAMS, ROOMS = GROUNDS
FOLK = ("main", ("people",))
A = ("main", ("people", 0, "cards"))
B = ("main", ("people", 1, "cards"))
TITLE = ("main", ("people", 0, "cards", 2, "title"))
SPARE = ("main", ("spare",))
# Two persons with three cards and one, a spare one.
CARDS = project("""
list people (name: text) [ { name: "Ann" } { name: "Bob" } { name: "Cy" } ]
list tasks (title: text, owner: text) [
    { title: "a" owner: "Ann" } { title: "b" owner: "Ann" } { title: "c" owner: "Ann" } { title: "d" owner: "Bob" }
    { title: "e" owner: "Cy" } { title: "f" owner: "" } ]
template card { title: "" }
template person { name: "" cards: for t in tasks where t.owner = name give card { title: t.title } }
document { people: for p in people give person { name: p.name } spare: for p in people where p.name = "" give person }
""")
C = ("main", ("people", 2, "cards"))


def card(title):
    return (("title", title),)


def person(name, *rows):
    return (("name", name), ("cards", tuple((serial, card(title)) for serial, title in rows)))


def rows_of(made, edit):
    return dict(wish_of(made, edit)[1])


def keeps(flat):
    """No row is moved within its rows place."""
    return all([s for s in flat.start[name] if s in now] == [s for s in now if s in flat.start[name]]
               for name, (_, now) in flat.named_rows().items())


class Changes(unittest.TestCase):
    def check(self, edit, *expected, made=CARDS):
        self.assertEqual(changes(made, edit), expected)

    def test_none(self):
        self.check(())

    def test_edits_that_end_where_they_began(self):
        self.check((("carry", A, 0, A, 2), ("carry", A, 0, A, 0)))
        self.check((("carry", A, 0, A, 0),))
        self.check((("set", ("main", ("people", 0, "name")), "Ann"),))
        self.check((("carry", FOLK, 2, FOLK, 0), ("carry", FOLK, 0, FOLK, 0), ("carry", FOLK, 1, FOLK, 1)))

    def test_a_value(self):
        self.check((("set", TITLE, "cc"),), ("value", TITLE))

    def test_a_row_that_is_taken(self):
        self.check((("take", A, 2),), ("row", A, 2), ("rows", A))

    def test_what_is_within_a_row_that_is_nowhere_is_not_told(self):
        steps = (("set", TITLE, "cc"), ("take", A, 0), ("carry", A, 1, B, 0), ("take", FOLK, 0))
        self.check(steps, ("row", FOLK, 0), ("row", A, 1), ("rows", FOLK), ("rows", B))

    def test_a_row_that_is_carried(self):
        self.check((("carry", A, 2, B, 0),), ("row", A, 2), ("rows", A), ("rows", B))
        self.check((("carry", A, 2, B, 0), ("carry", B, 2, C, 0)), ("row", A, 2), ("rows", A), ("rows", C))

    def test_a_row_that_is_moved_within_its_place_stays(self):
        self.check((("carry", A, 2, A, 0),), ("rows", A))
        self.check((("carry", FOLK, 2, FOLK, 0),), ("rows", FOLK))

    def test_values_and_rows_places_in_carried_rows_are_named_by_where_they_were(self):
        steps = (("carry", FOLK, 0, SPARE, 0), ("set", ("main", ("spare", 0, "cards", 2, "title")), "cc"),
                 ("take", ("main", ("spare", 0, "cards")), 0), ("put", ("main", ("spare", 0, "cards")), 0, 6, card("x")))
        self.check(steps, ("row", FOLK, 0), ("row", A, 0), ("rows", FOLK), ("rows", A), ("rows", SPARE), ("value", TITLE))

    def test_a_row_that_is_carried_into_a_row_that_is_taken_is_taken(self):
        self.check((("carry", A, 2, B, 0), ("take", FOLK, 1)),
                   ("row", FOLK, 1), ("row", A, 2), ("rows", FOLK), ("rows", A))

    def test_rows_that_are_put_have_no_name(self):
        self.check((("put", A, 0, 6, card("x")),), ("rows", A))
        self.check((("put", FOLK, 0, 3, person("Di", (6, "x"), (0, "a"))),), ("rows", FOLK))

    def test_a_row_that_is_carried_into_one_that_was_put(self):
        steps = (("put", FOLK, 0, 3, person("Di")), ("carry", A, 2, ("main", ("people", 3, "cards")), 0),
                 ("set", ("main", ("people", 3, "cards", 2, "title")), "cc"))
        self.check(steps, ("row", A, 2), ("rows", FOLK), ("rows", A), ("value", TITLE))

    def test_rows_within_rows_within_rows(self):
        rooms, things, parts = ("main", ("rooms",)), ("main", ("rooms", 0, "things")), ("main", ("rooms", 0, "things", 0, "parts"))
        made = ROOMS.project
        self.check((("take", parts, 0), ("take", things, 0)), ("row", things, 0), ("rows", things), made=made)
        self.check((("take", things, 0), ("take", rooms, 0)), ("row", rooms, 0), ("rows", rooms), made=made)
        # What is carried out of a row that is taken is told, and what changed in it.
        others = ("main", ("others",))
        steps = (("carry", things, 0, others, 0), ("take", ("main", ("others", 0, "parts")), 1), ("take", rooms, 0))
        self.check(steps, ("row", rooms, 0), ("row", things, 0), ("rows", others), ("rows", rooms), ("rows", parts), made=made)

    def test_values_of_records(self):
        place = ("other", ("last", "weight"))
        self.check((("set", place, 9), ("set", ("main", ("sum",)), 5)), ("value", ("main", ("sum",))), ("value", place),
                   made=TEAMS.project)


class Clashes(unittest.TestCase):
    made = CARDS

    def check(self, one, other, *expected):
        self.assertEqual(tuple(clashes(self.made, one, other)), expected)
        self.assertEqual(tuple(clashes(self.made, other, one)), tuple(sorted((d, c) for c, d in expected)))
        if expected:
            with self.assertRaises(Clash) as caught:
                merged(self.made, one, other)
            self.assertEqual((caught.exception.one, caught.exception.other), expected[0])
        else:
            merged(self.made, one, other)

    def same(self, *change):
        return (change, change)

    def test_values(self):
        place = ("main", ("people", 0, "name"))
        self.check((("set", place, "x"),), (("set", place, "y"),), self.same("value", place))
        self.check((("set", place, "x"),), (("set", place, "x"),))
        self.check((("set", place, "x"),), (("set", place, "Ann"),))
        self.check((("set", place, "x"),), (("set", TITLE, "y"),))

    def test_rows(self):
        self.check((("carry", A, 2, B, 0),), (("take", A, 2),), self.same("row", A, 2))
        self.check((("carry", A, 2, B, 0),), (("carry", A, 2, C, 0),), self.same("row", A, 2))
        self.check((("carry", A, 2, B, 0),), (("carry", A, 2, B, 0),))
        self.check((("take", A, 2),), (("take", A, 2),))
        self.check((("take", A, 2),), (("take", A, 1),))

    def test_rows_that_are_carried_into_rows_that_were_put(self):
        steps = (("put", FOLK, 0, 3, person("Di")), ("carry", A, 2, ("main", ("people", 3, "cards")), 0))
        self.check(steps, steps, self.same("row", A, 2))
        self.check(steps, (("put", FOLK, 1, 3, person("Di")), ("carry", A, 2, ("main", ("people", 3, "cards")), 0)),
                   self.same("row", A, 2))
        self.check(steps, (("carry", A, 1, B, 0),))

    def test_orders(self):
        self.check((("carry", A, 1, A, 0),), (("carry", A, 2, A, 1),), self.same("rows", A))
        self.check((("carry", A, 1, A, 0),), (("take", A, 2),), self.same("rows", A))
        self.check((("carry", A, 1, A, 0),), (("put", A, 0, 6, card("x")),), self.same("rows", A))
        self.check((("carry", A, 1, A, 0),), (("carry", A, 0, A, 1),))
        self.check((("carry", A, 1, A, 0),), (("take", B, 3),))
        self.check((("carry", A, 1, A, 0), ("put", A, 0, 6, card("x"))), (("carry", A, 1, A, 0), ("put", A, 0, 6, card("x"))),
                   self.same("rows", A))
        self.check((("take", A, 0),), (("take", A, 0), ("carry", A, 2, A, 0)), self.same("rows", A))
        self.check((("carry", A, 1, A, 0), ("take", A, 2)), (("carry", A, 1, A, 0), ("take", A, 2)))

    def test_one_serial_that_comes_in_both(self):
        put = (("put", A, 0, 5, card("x")),)
        self.check(put, put)
        self.check(put, (("put", A, 0, 5, card("y")),), self.same("rows", A))
        self.check(put, (("put", A, 1, 5, card("x")),), self.same("rows", A))
        self.check(put, put + (("take", A, 0),), self.same("rows", A))
        self.check(put, (("put", B, 0, 5, card("x")),))
        self.check(put, (("put", A, 0, 3, card("x")),))
        self.check((("carry", A, 2, B, 0),), (("carry", A, 2, B, 1),), self.same("rows", B))
        self.check((("carry", A, 2, B, 0),), (("put", B, 0, 2, card("c")),), self.same("rows", B))
        self.check((("carry", A, 2, B, 0),), (("put", B, 1, 2, card("c")),), self.same("rows", B))

    def test_new_items_do_not_clash(self):
        put = (("put", A, 0, 6, card("x")),)
        self.check(put, put)
        self.check(put, (("put", A, 1, 6, card("x")), ("put", A, 1, 7, card("y"))))
        # The old one comes in both, but the new ones are two.
        both = put + (("put", A, 0, 5, card("f")),)
        self.check(both, both, self.same("rows", A))

    def test_the_same_in_rows_that_were_put(self):
        def spare(name, *rows):
            return (("put", SPARE, 0, 0, person(name, *rows)),)
        self.check(spare("Di", (5, "f")), spare("Di", (5, "f")))
        self.check(spare("Di", (5, "f")), spare("Di", (5, "g")), self.same("rows", SPARE))
        self.check(spare("Di", (5, "f")), spare("Di", (4, "f")), self.same("rows", SPARE))
        self.check(spare("Di", (5, "f")), spare("Di"), self.same("rows", SPARE))
        self.check(spare("Di", (5, "f"), (4, "g")), spare("Di", (4, "g"), (5, "f")), self.same("rows", SPARE))
        # A new item within it is another one in each.
        self.check(spare("Di", (6, "f")), spare("Di", (6, "f")), self.same("rows", SPARE))

    def test_what_is_named_within_a_row_that_is_taken(self):
        take = (("take", FOLK, 0),)
        gone = ("row", FOLK, 0)
        self.check(take, (("set", TITLE, "cc"),), (gone, ("value", TITLE)))
        self.check(take, (("put", A, 0, 6, card("x")),), (gone, ("rows", A)))
        self.check(take, (("take", A, 2),), (gone, ("row", A, 2)), (gone, ("rows", A)))
        self.check(take, (("carry", B, 3, A, 0),), (gone, ("rows", A)))
        self.check(take, (("carry", A, 2, B, 0),), (gone, ("row", A, 2)), (gone, ("rows", A)))
        self.check((("take", A, 2),), (("set", TITLE, "cc"),), (("row", A, 2), ("value", TITLE)))
        self.check(take, take)
        self.check(take, (("carry", B, 3, C, 0),))
        self.check((("carry", FOLK, 0, SPARE, 0),), (("set", TITLE, "cc"), ("take", A, 0)))

    def test_the_names_tell_what_is_within(self):
        # A card that is carried out of a person who is taken is still named within this person.
        one = (("carry", A, 2, B, 0), ("take", FOLK, 0))
        self.check(one, (("set", TITLE, "cc"),), (("row", FOLK, 0), ("value", TITLE)))

    def test_several_pairs_ascend(self):
        one = (("take", A, 2), ("set", ("main", ("people", 1, "name")), "x"), ("carry", A, 1, A, 0))
        other = (("carry", A, 2, B, 0), ("set", ("main", ("people", 1, "name")), "y"), ("set", ("main", ("people", 1, "cards", 2, "title")), "z"))
        self.check(one, other, self.same("row", A, 2), (("row", A, 2), ("value", TITLE)), self.same("rows", A),
                   self.same("value", ("main", ("people", 1, "name"))))

    def test_a_generator(self):
        self.assertIsInstance(clashes(self.made, (), ()), types.GeneratorType)
        with self.assertRaises(BadEdit):
            next(clashes(self.made, (), None))


class Merged(unittest.TestCase):
    made = CARDS

    def check(self, one, other, **wished_rows):
        """The merged edit has these serials at A, B, .., and the values of both sides."""
        edit = merged(self.made, one, other)
        rows = rows_of(self.made, edit)
        for name, serials in wished_rows.items():
            place = {"A": A, "B": B, "C": C, "FOLK": FOLK, "SPARE": SPARE}[name]
            self.assertEqual(rows.get(place), serials, name)
        return dict(wish_of(self.made, edit)[0])

    def test_values(self):
        bob = ("main", ("people", 1, "name"))
        values = self.check((("set", TITLE, "cc"),), (("set", bob, "Bo"),))
        self.assertEqual((values[TITLE], values[bob], values[("main", ("people", 0, "name"))]), ("cc", "Bo", "Ann"))
        values = self.check((("set", TITLE, "cc"),), (("set", TITLE, "cc"), ("set", bob, "Bob")))
        self.assertEqual((values[TITLE], values[bob]), ("cc", "Bob"))

    def test_taken_rows(self):
        self.check((("take", A, 0),), (("take", A, 1),), A=(2,))
        self.check((("take", A, 0),), (("take", A, 0),), A=(1, 2))
        self.check((("take", FOLK, 0),), (("take", B, 3),), FOLK=(1, 2), A=None, B=())

    def test_carried_rows(self):
        self.check((("carry", A, 2, B, 0),), (("carry", A, 0, B, 1),), A=(1,), B=(2, 3, 0))
        self.check((("carry", A, 2, B, 1),), (("carry", A, 2, B, 1),), A=(0, 1), B=(3, 2))
        self.check((("carry", A, 2, B, 0),), (("carry", B, 3, A, 0),), A=(3, 0, 1), B=(2,))
        values = self.check((("carry", FOLK, 0, SPARE, 0),), (("set", TITLE, "cc"), ("take", A, 0)), FOLK=(1, 2), SPARE=(0,))
        self.assertEqual(values[("main", ("spare", 0, "cards", 2, "title"))], "cc")
        self.assertNotIn(("main", ("spare", 0, "cards", 0, "title")), values)

    def test_put_rows(self):
        values = self.check((("put", A, 0, 5, card("x")),), (("put", B, 0, 5, card("y")),), A=(5, 0, 1, 2), B=(5, 3))
        self.assertEqual(values[("main", ("people", 0, "cards", 5, "title"))], "x")
        self.assertEqual(values[("main", ("people", 1, "cards", 5, "title"))], "y")

    def test_new_items(self):
        values = self.check((("put", A, 0, 6, card("x")),), (("put", A, 0, 6, card("y")),), A=(6, 7, 0, 1, 2))
        self.assertEqual([values[("main", ("people", 0, "cards", at, "title"))] for at in (6, 7)], ["x", "y"])
        one = (("put", A, 0, 6, card("x")), ("put", B, 0, 7, card("y")), ("put", C, 0, 6, card("z")))
        other = (("put", C, 0, 6, card("u")), ("put", B, 1, 6, card("v")), ("put", FOLK, 3, 3, person("Di", (7, "w"), (0, "a"))))
        values = self.check(one, other, A=(6, 0, 1, 2), B=(7, 3, 8), C=(6, 8, 4), FOLK=(0, 1, 2, 3))
        self.assertEqual(rows_of(self.made, merged(self.made, one, other))[("main", ("people", 3, "cards"))], (9, 0))
        self.assertEqual(values[("main", ("people", 3, "cards", 9, "title"))], "w")
        self.assertEqual(values[("main", ("people", 2, "cards", 8, "title"))], "u")

    def test_what_is_carried_into_a_row_that_was_put(self):
        one = (("put", FOLK, 0, 3, person("Di", (5, "f"))), ("carry", A, 2, ("main", ("people", 3, "cards")), 0),
               ("carry", B, 3, ("main", ("people", 3, "cards")), 2))
        other = (("set", TITLE, "cc"), ("put", FOLK, 3, 3, person("Ed", (6, "x"))))
        values = self.check(one, other, FOLK=(3, 0, 1, 2, 4), A=(0, 1), B=())
        rows = rows_of(self.made, merged(self.made, one, other))
        self.assertEqual((rows[("main", ("people", 3, "cards"))], rows[("main", ("people", 4, "cards"))]), ((2, 5, 3), (6,)))
        self.assertEqual(values[("main", ("people", 3, "cards", 2, "title"))], "cc")

    def test_both_wish_the_same_tuple(self):
        put = (("put", A, 1, 5, card("x")), ("take", A, 0))
        values = self.check(put, put + (("set", TITLE, "cc"),), A=(5, 1, 2))
        self.assertEqual(values[TITLE], "cc")
        self.check((("carry", A, 2, A, 0),), (("carry", A, 2, A, 0), ("take", B, 3)), A=(2, 0, 1), B=())
        inner = (("put", SPARE, 0, 0, person("Di", (5, "f"))),)
        self.check(inner, inner + (("put", A, 0, 6, card("x")),), SPARE=(0,), A=(6, 0, 1, 2))
        apart = (("put", SPARE, 0, 0, person("Di")), ("put", ("main", ("spare", 0, "cards")), 0, 5, card("f")))
        self.check(inner, apart, SPARE=(0,))
        self.check(apart, inner, SPARE=(0,))

    def test_woven(self):
        one = (("put", A, 0, 6, card("x")), ("put", A, 2, 7, card("y")), ("put", A, 5, 8, card("z")), ("take", A, 1))
        other = (("take", A, 0), ("put", A, 0, 6, card("u")), ("put", A, 2, 7, card("v")), ("carry", B, 3, A, 4))
        # At the beginning 6 in one, 9 in other; behind 0, which is gone, 7; behind 1, which is gone, 10; behind 2 then 8 and 3.
        self.check(one, other, A=(6, 9, 7, 10, 2, 8, 3), B=())
        self.check(other, one, A=(6, 8, 9, 7, 2, 3, 10), B=())

    def test_the_examples_in_words(self):
        made, people = PEOPLE.project, PEOPLE
        drag = (("carry", A, 2, B, 0),)
        edit = merged(made, drag, (("set", TITLE, "cc"),))
        self.assertEqual(rows_of(made, edit)[B], (2, 1))
        self.assertEqual(dict(wish_of(made, edit)[0])[("main", ("people", 1, "cards", 2, "title"))], "cc")
        pair = (("row", A, 2), ("row", A, 2))
        with self.assertRaises(Clash) as caught:
            merged(made, drag, (("take", A, 2),))
        self.assertEqual((caught.exception.one, caught.exception.other), pair)
        self.assertEqual(list(clashes(made, (("take", A, 2),), (("set", TITLE, "cc"),))), [(("row", A, 2), ("value", TITLE))])
        self.assertEqual(list(clashes(made, (("take", FOLK, 0),), (("put", A, 0, 3, card("x")),))), [(("row", FOLK, 0), ("rows", A))])
        one, other = (("put", B, 1, 3, card("d")),), (("put", B, 1, 3, card("x")),)
        for first, second, titles in ((one, other, "dx"), (other, one, "xd")):
            edit = merged(made, first, second)
            self.assertEqual(rows_of(made, edit)[B], (1, 3, 4))
            values = dict(wish_of(made, edit)[0])
            self.assertEqual("".join(values[("main", ("people", 1, "cards", at, "title"))] for at in (3, 4)), titles)
        self.check((("take", A, 1),), (("put", A, 2, 3, card("x")),), A=(0, 3, 2))
        with self.assertRaises(Clash) as caught:
            merged(self.made, (("carry", A, 1, A, 0),), (("carry", A, 2, A, 1),))
        self.assertEqual((caught.exception.one, caught.exception.other), (("rows", A), ("rows", A)))
        sums = project("document { let x: 1 let y: 1 p: x + y q: x - y }")
        edit = merged(sums, (("set", ("main", ("p",)), 4),), (("set", ("main", ("q",)), 2),))
        self.assertEqual(wished(sums, edit, "main"), (("p", 4), ("q", 2)))

    def test_the_errors_of_the_one_come_first(self):
        bad, unmade = ("none",), (("take", A, 9),)
        good = (("take", A, 0),)
        for one, other, error, value in ((bad, unmade, BadEdit, bad), (unmade, bad, StepError, 0), (good, bad, BadEdit, bad),
                                         (good, good + unmade, StepError, 1), (bad, bad, BadEdit, bad)):
            for ask in (merged, lambda *given: list(clashes(*given))):
                with self.assertRaises(error) as caught:
                    ask(self.made, one, other)
                self.assertEqual(caught.exception.value if error is BadEdit else caught.exception.index, value)

    def test_arguments_that_are_no_edits(self):
        for value in ANY:
            if value != ():
                for edits in ((value, ()), ((), value)):
                    with self.assertRaises(BadEdit) as caught:
                        merged(self.made, *edits)
                    self.assertIs(caught.exception.value, value)

    def test_by_name(self):
        one = (("take", A, 0),)
        self.assertEqual(changes(project=self.made, edit=one), changes(self.made, one))
        self.assertEqual(list(clashes(project=self.made, one=one, other=())), [])
        self.assertEqual(wish_of(self.made, merged(project=self.made, one=(), other=one)), wish_of(self.made, one))

    def test_no_documents(self):
        made = project("template t { a: 1 }")
        self.assertEqual((changes(made, ()), list(clashes(made, (), ())), merged(made, (), ())), ((), [], ()))


class Randomly(unittest.TestCase):
    MANY = 1200

    @classmethod
    def setUpClass(cls):
        cls.pairs = []
        for seed in range(cls.MANY):
            ground = GROUNDS[seed % 3]
            (one, flat), (other, second) = pair_by_chance(random.Random(seed), ground)
            cls.pairs.append((ground, one, other, Both(ground, flat, second)))

    def once(self, ground, edit):
        """Each row is taken, carried or put in at most once."""
        flat, seen = Flat(ground), set()
        for step in edit:
            if step[0] in ("take", "carry"):
                name = flat.names[below(step[1], step[2])]
                self.assertIsNotNone(name)
                self.assertNotIn(name, seen, edit)
                seen.add(name)
            self.assertIsNone(flat.make(step))

    def test_changes(self):
        for ground, one, other, both in self.pairs:
            self.assertEqual(changes(ground.project, one), both.one.changes(), one)
            self.assertEqual(changes(ground.project, other), both.other.changes(), other)

    def test_clashes_and_merged_edits(self):
        seen = {}
        for ground, one, other, both in self.pairs:
            expected = both.clashes()
            self.assertEqual(list(clashes(ground.project, one, other)), expected, (one, other))
            for first, second in expected:
                key = first[0] if first == second else (first[0], second[0])
                seen[key] = seen.get(key, 0) + 1
            if expected:
                with self.assertRaises(Clash) as caught:
                    merged(ground.project, one, other)
                self.assertEqual((caught.exception.one, caught.exception.other), expected[0])
                continue
            edit = merged(ground.project, one, other)
            self.assertEqual(wish_of(ground.project, edit), both.wish(), (one, other, edit))
            self.once(ground, edit)
            if all(keeps(flat) for flat in (both.one, both.other)):
                self.assertEqual([step for step in edit if step[0] == "carry" and step[1] == step[3]], [])
            for name, (_, serials) in both.rows[0].items():
                if name in both.rows[1] and both.rows[1][name][1] != both.one.start[name] != serials:
                    key = "same tuple" if both.same(name) else "woven"
                    seen[key] = seen.get(key, 0) + 1
        for key in ("value", "row", "rows", ("row", "value"), ("row", "rows"), ("row", "row"), ("rows", "row"), ("value", "row"),
                    "woven", "same tuple"):
            self.assertGreater(seen.get(key, 0), 5, key)

    def test_worlds(self):
        for seed, ground in enumerate(world_grounds()):
            (one, flat), (other, second) = pair_by_chance(random.Random(seed), ground)
            both = Both(ground, flat, second)
            self.assertEqual(list(clashes(ground.project, one, other)), both.clashes(), (one, other))
            if not both.clashes():
                self.assertEqual(wish_of(ground.project, merged(ground.project, one, other)), both.wish(), (one, other))

    def test_with_nothing(self):
        for seed in range(300):
            ground = GROUNDS[seed % 3]
            edit, flat = sound_edit(random.Random(seed), ground, 9)
            for found in (merged(ground.project, edit, ()), merged(ground.project, (), edit)):
                self.assertEqual(wish_of(ground.project, found), flat.wish())
                self.once(ground, found)

    def test_the_other_way_round(self):
        """The same wish but for the order of rows that came to one gap, and the serials of new items."""
        for ground, one, other, both in self.pairs[:500]:
            if both.clashes():
                continue
            found = [wish_of(ground.project, merged(ground.project, *edits)) for edits in ((one, other), (other, one))]
            told = []
            for values, rows in found:
                told.append((sorted(map(repr, [value for _, value in values])), sorted(len(serials) for _, serials in rows)))
            self.assertEqual(told[0], told[1])
            if both.one.nexts == both.other.nexts == ground.nexts:
                self.assertEqual(found[0][0], found[1][0])
                self.assertEqual([(place, sorted(serials)) for place, serials in found[0][1]],
                                 [(place, sorted(serials)) for place, serials in found[1][1]])


if __name__ == "__main__":
    unittest.main()
