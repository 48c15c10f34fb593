"""Point 8: edits, their steps and wishes, and what stands against them."""

import copy
import random
import unittest

from editing import GROUNDS, Flat, edit_by_chance, world_grounds
from helping import ANY, deep, project
from sourceback.edits import wish_of, wished
from sourceback.errors import BadEdit, NoFile, StepError
from sourceback.merging import changes, clashes, merged
from sourceback.places import places, rows_places
from sourceback.values import labelled, shown, value_of

PEOPLE, TEAMS, ROOMS = GROUNDS
FOLK = ("main", ("people",))
ANN = ("main", ("people", 0, "cards"))
BOB = ("main", ("people", 1, "cards"))
CARD = (("title", "new"),)


def cards(*rows):
    return tuple((serial, (("title", title),)) for serial, title in rows)


def person(name, *rows):
    return (("name", name), ("cards", cards(*rows)))


class Case(unittest.TestCase):
    made = PEOPLE.project

    def leaves(self, steps, *people):
        """The edit leaves these people: (serial, name, cards ..)."""
        expected = tuple((serial, person(name, *rows)) for serial, name, *rows in people)
        self.assertEqual(wished(self.made, steps, "main"), (("people", expected),))
        values, rows = wish_of(self.made, steps)
        told = {}
        for serial, name, *own in people:
            told[("main", ("people", serial, "name"))] = name
            told.update({("main", ("people", serial, "cards", at, "title")): title for at, title in own})
        self.assertEqual(values, tuple(sorted(told.items())))
        lists = {FOLK: tuple(serial for serial, *_ in people)}
        lists.update({("main", ("people", serial, "cards")): tuple(at for at, _ in own) for serial, _, *own in people})
        self.assertEqual(rows, tuple(sorted(lists.items())))

    def fails(self, steps, index, word):
        for ask in (lambda: wish_of(self.made, steps), lambda: wished(self.made, steps, "nofile"),
                    lambda: changes(self.made, steps), lambda: merged(self.made, steps, ()),
                    lambda: merged(self.made, (), steps), lambda: list(clashes(self.made, (), steps))):
            with self.assertRaises(StepError) as caught:
                ask()
            self.assertEqual((caught.exception.index, caught.exception.word), (index, word), steps)


class Steps(Case):
    def test_none(self):
        self.leaves((), (0, "Ann", (0, "a"), (2, "c")), (1, "Bob", (1, "b")))
        for ground in GROUNDS:
            values, rows = wish_of(ground.project, ())
            self.assertEqual(values, tuple((place, value_of(ground.project, place)) for place in places(ground.project)))
            self.assertEqual(rows, tuple((place, shown(ground.project, place)) for place in rows_places(ground.project)))
            for file in ground.project.documents:
                self.assertEqual(wished(ground.project, (), file), labelled(ground.project, file))
        self.assertEqual(wish_of(project("template t { a: 1 }"), ()), ((), ()))

    def test_set(self):
        self.leaves((("set", ("main", ("people", 0, "cards", 2, "title")), "x y"),),
                    (0, "Ann", (0, "a"), (2, "x y")), (1, "Bob", (1, "b")))
        self.leaves((("set", ("main", ("people", 0, "name")), "Bob"), ("set", ("main", ("people", 1, "name")), "")),
                    (0, "Bob", (0, "a"), (2, "c")), (1, "", (1, "b")))

    def test_take(self):
        self.leaves((("take", ANN, 0),), (0, "Ann", (2, "c")), (1, "Bob", (1, "b")))
        self.leaves((("take", FOLK, 0),), (1, "Bob", (1, "b")))
        self.leaves((("take", ANN, 0), ("take", ANN, 2), ("take", FOLK, 1)), (0, "Ann"))

    def test_take_rows_that_were_carried(self):
        self.leaves((("carry", ANN, 2, BOB, 0), ("take", BOB, 2)), (0, "Ann", (0, "a")), (1, "Bob", (1, "b")))
        self.leaves((("carry", ANN, 0, ANN, 1), ("carry", ANN, 0, ANN, 0), ("take", ANN, 0)), (0, "Ann", (2, "c")), (1, "Bob", (1, "b")))
        self.leaves((("carry", ANN, 2, BOB, 0), ("take", FOLK, 1)), (0, "Ann", (0, "a")))
        self.fails((("carry", ANN, 2, BOB, 0), ("take", BOB, 2), ("put", ANN, 0, 2, CARD)), 2, "serial")
        self.fails((("carry", ANN, 2, BOB, 0), ("take", BOB, 2), ("put", BOB, 0, 2, CARD)), 2, "serial")

    def test_put_a_new_item(self):
        for index, rows in ((0, [(3, "new"), (0, "a"), (2, "c")]), (1, [(0, "a"), (3, "new"), (2, "c")]),
                            (2, [(0, "a"), (2, "c"), (3, "new")])):
            self.leaves((("put", ANN, index, 3, CARD),), (0, "Ann", *rows), (1, "Bob", (1, "b")))

    def test_put_an_item_that_has_no_row_there(self):
        self.leaves((("put", BOB, 0, 2, CARD),), (0, "Ann", (0, "a"), (2, "c")), (1, "Bob", (2, "new"), (1, "b")))
        made = project('list l (p: number) [ { p: 1 } { p: 2 } ] template t { a: 0 } document { r: for g in l where g.p = 1 give t }')
        self.assertEqual(wished(made, (("put", ("main", ("r",)), 1, 1, (("a", 5),)),), "main"),
                         (("r", ((0, (("a", 0),)), (1, (("a", 5),)))),))

    def test_put_a_new_item_in_two_places(self):
        self.leaves((("put", ANN, 0, 3, CARD), ("put", BOB, 0, 3, CARD), ("put", ANN, 0, 4, CARD)),
                    (0, "Ann", (4, "new"), (3, "new"), (0, "a"), (2, "c")), (1, "Bob", (3, "new"), (1, "b")))

    def test_put_rows_within_rows(self):
        self.leaves((("put", FOLK, 1, 2, person("Cy", (3, "x"), (1, "b"), (4, "y"), (0, "a"))),),
                    (0, "Ann", (0, "a"), (2, "c")), (2, "Cy", (3, "x"), (1, "b"), (4, "y"), (0, "a")), (1, "Bob", (1, "b")))
        self.leaves((("put", FOLK, 0, 2, person("Cy", (3, "x"))), ("put", ("main", ("people", 2, "cards")), 0, 4, CARD),
                     ("put", FOLK, 0, 3, person("Di", (4, "z"), (5, "w")))),
                    (3, "Di", (4, "z"), (5, "w")), (2, "Cy", (4, "new"), (3, "x")), (0, "Ann", (0, "a"), (2, "c")),
                    (1, "Bob", (1, "b")))

    def test_serials_go_on_behind_the_row_itself(self):
        made = project('list l (p: number) [ { p: 1 } ] list m (q: number) [ ] template leaf { v: 0 } '
                       'template twig { one: for g in l give leaf two: for g in l give leaf three: for g in m give leaf } '
                       'document { twigs: for g in l give twig } ')
        rows = ("main", ("twigs",))
        leaf = (("v", 0),)

        def twig(one, two, three):
            return tuple((name, tuple((serial, leaf) for serial in part))
                         for name, part in (("one", one), ("two", two), ("three", three)))
        for parts in (((0,), (0,), ()), ((1,), (2,), ()), ((2, 3), (1, 3, 4), ()), ((), (), (0, 1)), ((1, 0), (0, 1), (0,))):
            step = ("put", rows, 0, 1, twig(*parts))
            self.assertEqual(wished(made, (step,), "main")[0][1][0], (1, step[4]))
        for parts in (((3,), (2,), ()), ((2, 2), (), ()), ((), (), (1,)), ((), (), (1, 0)), ((0, 0), (), ()), ((), (3, 2), ())):
            with self.assertRaises(StepError) as caught:
                wish_of(made, (("put", rows, 0, 1, twig(*parts)),))
            self.assertEqual(caught.exception.word, "serial")
        # An item that is there, and the row of a new item within it.
        self.assertEqual(wished(made, (("take", rows, 0), ("put", rows, 0, 1, twig((2,), (), ()))), "main")[0][1][0][0], 1)

    def test_carry_to_another_place(self):
        for index, rows in ((0, [(2, "c"), (1, "b")]), (1, [(1, "b"), (2, "c")])):
            self.leaves((("carry", ANN, 2, BOB, index),), (0, "Ann", (0, "a")), (1, "Bob", *rows))

    def test_carry_within_a_place(self):
        first = (("put", ANN, 2, 3, CARD),)
        for index, order in ((0, (2, 0, 3)), (1, (0, 2, 3)), (2, (0, 3, 2))):
            titles = {0: "a", 2: "c", 3: "new"}
            self.leaves(first + (("carry", ANN, 2, ANN, index),),
                        (0, "Ann", *[(serial, titles[serial]) for serial in order]), (1, "Bob", (1, "b")))
        self.leaves((("carry", FOLK, 0, FOLK, 1),), (1, "Bob", (1, "b")), (0, "Ann", (0, "a"), (2, "c")))
        self.leaves((("carry", FOLK, 0, FOLK, 1), ("carry", FOLK, 0, FOLK, 0)), (0, "Ann", (0, "a"), (2, "c")), (1, "Bob", (1, "b")))

    def test_places_are_told_by_where_the_row_is_now(self):
        self.leaves((("carry", ANN, 2, BOB, 0), ("set", ("main", ("people", 1, "cards", 2, "title")), "cc")),
                    (0, "Ann", (0, "a")), (1, "Bob", (2, "cc"), (1, "b")))
        self.fails((("carry", ANN, 2, BOB, 0), ("set", ("main", ("people", 0, "cards", 2, "title")), "cc")), 1, "place")
        self.leaves((("set", ("main", ("people", 0, "cards", 2, "title")), "cc"), ("carry", ANN, 2, BOB, 0)),
                    (0, "Ann", (0, "a")), (1, "Bob", (2, "cc"), (1, "b")))
        self.leaves((("put", FOLK, 0, 2, person("Cy")), ("carry", ANN, 2, ("main", ("people", 2, "cards")), 0),
                     ("set", ("main", ("people", 2, "cards", 2, "title")), "z"), ("carry", ("main", ("people", 2, "cards")), 2, BOB, 1)),
                    (2, "Cy"), (0, "Ann", (0, "a")), (1, "Bob", (1, "b"), (2, "z")))

    def test_rows_with_rows_in_them(self):
        made = TEAMS.project
        team, other = ("main", ("teams", 0, "people")), ("main", ("loose",))
        steps = (("take", ("main", ("teams", 0, "people", 0, "cards")), 2), ("carry", team, 0, other, 1),
                 ("set", ("main", ("loose", 0, "cards", 4, "cost")), 9), ("put", ("main", ("loose", 0, "cards")), 2, 6,
                  (("title", "g"), ("cost", 1), ("note", (("words", "w"), ("weight", 0))))))
        values, rows = map(dict, wish_of(made, steps))
        self.assertEqual(rows[team], (1,))
        self.assertEqual(rows[other], (3, 0))
        self.assertEqual(rows[("main", ("loose", 0, "cards"))], (0, 4, 6))
        self.assertEqual(rows[("main", ("loose", 0, "wides"))], (0, 2, 4))
        self.assertEqual(values[("main", ("loose", 0, "cards", 4, "cost"))], 9)
        self.assertEqual(values[("main", ("loose", 0, "cards", 6, "note", "words"))], "w")
        self.assertNotIn(("main", ("teams", 0, "people", 0, "name")), values)

    def test_hidden_fields_are_no_part(self):
        values, rows = map(dict, wish_of(TEAMS.project, ()))
        self.assertFalse([place for place in list(values) + list(rows) if "veil" in place[1] or "key" in place[1]])

    def test_two_edits_can_be_joined(self):
        one, other = (("take", ANN, 0),), (("set", ("main", ("people", 1, "name")), "Bo"),)
        self.leaves(one + other, (0, "Ann", (2, "c")), (1, "Bo", (1, "b")))

    def test_many_steps(self):
        steps = []
        for number in range(10):
            steps.append(("put", ANN, number, 3 + number, (("title", str(number)),)))
            steps.append(("carry", ANN if number % 2 == 0 else BOB, 2, BOB if number % 2 == 0 else ANN, 0))
        self.fails(tuple(steps), 3, "serial")
        steps = [step for step in steps if step[0] == "put"]
        for number in range(10):
            steps.append(("carry", ANN, 2, ANN, number))
        self.leaves(tuple(steps), (0, "Ann", *[(3 + n, str(n)) for n in range(9)], (2, "c"), (12, "9"), (0, "a")), (1, "Bob", (1, "b")))

    def test_the_project_stays_as_it_is(self):
        before = labelled(self.made, "main")
        steps = (("carry", ANN, 2, BOB, 0), ("put", ANN, 0, 3, CARD))
        first = wish_of(self.made, steps)
        self.assertEqual(labelled(self.made, "main"), before)
        self.assertEqual(self.made.next_serial("main", "tasks"), 3)
        self.assertEqual(wish_of(self.made, steps), first)

    def test_by_name(self):
        steps = (("take", ANN, 0),)
        self.assertEqual(wish_of(project=self.made, edit=steps), wish_of(self.made, steps))
        self.assertEqual(wished(project=self.made, edit=steps, file="main"), wished(self.made, steps, "main"))

    def test_serials_of_written_projects(self):
        text = self.made["main"]
        fewer = text.replace(' { title: "c" owner: "Ann" }', "")
        made = self.made.written("main", fewer).written("main", text)
        self.assertEqual(made.serials("main", "tasks"), (0, 1, 3))
        self.assertEqual(dict(wish_of(made, (("put", ANN, 0, 4, CARD),))[1])[ANN], (4, 0, 3))
        for serial in (2, 5, 3):
            with self.assertRaises(StepError) as caught:
                wish_of(made, (("put", ANN, 0, serial, CARD),))
            self.assertEqual(caught.exception.word, "serial")


class Words(Case):
    """Each word at each kind of step."""

    NO_PLACES = [("main", ()), ("main", ("nothing",)), ("nofile", ("people",)), ("main", ("people", 0)), ("main", ("people", 2, "name")),
                 ("main", ("people", 2, "cards")), ("main", ("people", "name")), ("main", ("people", 0, "cards", 1, "title")),
                 ("main", (0,)), ("main", ("people", 0, 0)), ("main", ("people", "*", "cards")), ("", ()), ("main", ("people", "0", "name"))]

    def test_place(self):
        for place in self.NO_PLACES + [FOLK, ANN]:
            self.fails((("set", place, "x"),), 0, "place")
        for place in self.NO_PLACES + [("main", ("people", 0, "name")), ("main", ("people", 0, "cards", 0, "title"))]:
            self.fails((("take", place, 0),), 0, "place")
            self.fails((("put", place, 0, 3, CARD),), 0, "place")
            self.fails((("carry", place, 0, BOB, 0),), 0, "place")
            self.fails((("carry", ANN, 0, place, 0),), 0, "place")

    def test_hidden_places(self):
        for step in (("set", ("main", ("veil", "label")), "x"), ("set", ("main", ("sum", "secret")), 1),
                     ("set", ("other", ("last", "secret")), 1), ("take", ("main", ("veil", "people")), 0),
                     ("carry", ("main", ("veil", "people")), 0, ("main", ("loose",)), 0),
                     ("carry", ("main", ("loose",)), 3, ("main", ("veil", "people")), 0)):
            with self.assertRaises(StepError) as caught:
                wish_of(TEAMS.project, (step,))
            self.assertEqual(caught.exception.word, "place")

    def test_a_place_within_the_row_that_is_carried(self):
        made = ROOMS.project
        rooms, things = ("main", ("rooms",)), ("main", ("rooms", 0, "things"))
        for place, serial, other in ((rooms, 0, things), (rooms, 0, ("main", ("rooms", 0, "things", 0, "parts"))),
                                     (things, 0, ("main", ("rooms", 0, "things", 0, "parts")))):
            with self.assertRaises(StepError) as caught:
                wish_of(made, (("carry", place, serial, other, 0),))
            self.assertEqual(caught.exception.word, "place")

    def test_a_place_that_is_gone_or_came(self):
        self.fails((("take", FOLK, 0), ("set", ("main", ("people", 0, "name")), "x")), 1, "place")
        self.fails((("take", FOLK, 0), ("take", ANN, 0)), 1, "place")
        self.fails((("take", FOLK, 0), ("carry", BOB, 1, ANN, 0)), 1, "place")
        self.fails((("put", FOLK, 0, 2, person("Cy")), ("set", ("main", ("people", 2, "name")), "x")), 1, "twice")

    def test_rows(self):
        self.fails((("carry", ANN, 0, FOLK, 0),), 0, "rows")
        self.fails((("carry", FOLK, 0, BOB, 0),), 0, "rows")
        self.fails((("carry", FOLK, 7, BOB, 9),), 0, "rows")
        wides = ("main", ("teams", 0, "people", 0, "wides"))
        for place, other in ((wides, ("main", ("all",))), (("other", ("free",)), wides), (wides, ("main", ("loose",)))):
            with self.assertRaises(StepError) as caught:
                wish_of(TEAMS.project, (("carry", place, 0, other, 0),))
            self.assertEqual(caught.exception.word, "rows")

    def test_the_same_template_with_another_body_is_alike(self):
        steps = (("carry", ("other", ("free",)), 5, ("main", ("teams", 0, "people", 0, "cards")), 3),)
        values, rows = map(dict, wish_of(TEAMS.project, steps))
        self.assertEqual(rows[steps[0][3]], (0, 2, 4, 5))
        self.assertEqual(values[("main", ("teams", 0, "people", 0, "cards", 5, "cost"))], 0)

    def test_kind_of_values(self):
        for value in (0, -1, 10 ** 8, '"', "\\", "\n", "x" * 61, "\x7f", "\u00e4", "\t", "a\0"):
            self.fails((("set", ("main", ("people", 0, "name")), value),), 0, "kind")
        for value in ("", "1", "x"):
            with self.assertRaises(StepError) as caught:
                wish_of(TEAMS.project, (("set", ("main", ("sum",)), value),))
            self.assertEqual(caught.exception.word, "kind")
        for value in ("", " ", "x" * 60, "".join(chr(code) for code in range(32, 92) if chr(code) not in '"\\')):
            self.assertEqual(dict(wish_of(self.made, (("set", ("main", ("people", 0, "name")), value),))[0])[("main", ("people", 0, "name"))], value)

    def test_kind_of_records(self):
        for record in ((), (("title", 1),), (("name", "x"),), (("title", "x"), ("title", "x")), (("title", "x"), ("owner", "Ann")),
                       (("title", '"'),), (("title", "x" * 61),), (("title", ()),), (("title", (("title", "x"),)),),
                       (("title", ((0, (("title", "x"),)),)),), (("", "x"),)):
            self.fails((("put", ANN, 0, 3, record),), 0, "kind")
        for record in ((("cards", ()), ("name", "x")), (("name", "x"),), (("name", 1), ("cards", ())), (("name", "x"), ("cards", 3)),
                       (("name", "x"), ("cards", "")), (("name", "x"), ("cards", CARD)), (("name", "x"), ("cards", ((0, ()),))),
                       (("name", "x"), ("cards", (("a", CARD),))),
                       (("name", "x"), ("cards", ((0, (("title", 1),)),))), (("name", "x"), ("cards", ((0, CARD), (3, (("name", "x"),)))))):
            self.fails((("put", FOLK, 0, 2, record),), 0, "kind")

    def test_kind_of_records_in_records(self):
        rows = ("main", ("all",))
        for note in ((), 1, "x", (("words", "w"),), (("words", "w"), ("secret", 4), ("weight", 1)), (("weight", 1), ("words", "w")),
                     (("words", 1), ("weight", 1)), (("words", "w"), ("weight", "w")), ((0, (("words", "w"), ("weight", 1))),)):
            with self.assertRaises(StepError) as caught:
                wish_of(TEAMS.project, (("take", rows, 0), ("put", rows, 0, 6, (("title", "t"), ("cost", 1), ("note", note)))))
            self.assertEqual((caught.exception.index, caught.exception.word), (1, "kind"))

    def test_a_record_without_visible_fields(self):
        made = project("list l ( ) [ { } ] template t { let a: 1 } document { r: for g in l give t }")
        rows = ("main", ("r",))
        self.assertEqual(wished(made, (("put", rows, 0, 1, ()),), "main"), (("r", ((1, ()), (0, ()))),))
        with self.assertRaises(StepError):
            wish_of(made, (("put", rows, 0, 1, (("a", 1),)),))

    def test_serial_of_rows_that_are_not_there(self):
        for serial in (1, 3, 7):
            self.fails((("take", ANN, serial),), 0, "serial")
            self.fails((("carry", ANN, serial, BOB, 0),), 0, "serial")
            self.fails((("carry", ANN, serial, ANN, 0),), 0, "serial")
        self.fails((("take", ANN, 0), ("take", ANN, 0)), 1, "serial")
        self.fails((("carry", ANN, 0, BOB, 0), ("take", ANN, 0)), 1, "serial")

    def test_serial_of_rows_that_were_put_in(self):
        put = ("put", ANN, 0, 1, CARD)
        for step in (("take", ANN, 1), ("carry", ANN, 1, BOB, 0), ("carry", ANN, 1, ANN, 0)):
            self.fails((put, step), 1, "serial")
        inner = ("main", ("people", 2, "cards"))
        put = ("put", FOLK, 0, 2, person("Cy", (0, "a")))
        for step in (("take", inner, 0), ("carry", inner, 0, BOB, 0), ("take", FOLK, 2), ("carry", FOLK, 2, FOLK, 1)):
            self.fails((put, step), 1, "serial")

    def test_serial_of_rows_that_hold_a_row_that_was_put_in(self):
        self.fails((("put", ANN, 0, 3, CARD), ("take", FOLK, 0)), 1, "serial")
        self.leaves((("put", ANN, 0, 3, CARD), ("carry", FOLK, 0, FOLK, 1)),
                    (1, "Bob", (1, "b")), (0, "Ann", (3, "new"), (0, "a"), (2, "c")))
        parts = ("main", ("rooms", 0, "things", 0, "parts"))
        put = ("put", parts, 0, 7, (("k", 1),))
        carry = ("carry", ("main", ("rooms", 0, "things")), 0, ("main", ("rooms", 1, "things")), 0)
        for steps in ((put, ("take", ("main", ("rooms",)), 0)), (put, ("take", ("main", ("rooms", 0, "things")), 0)),
                      (put, carry, ("take", ("main", ("rooms",)), 1))):
            with self.assertRaises(StepError) as caught:
                wish_of(ROOMS.project, steps)
            self.assertEqual((caught.exception.index, caught.exception.word), (len(steps) - 1, "serial"))
        rows = dict(wish_of(ROOMS.project, (put, carry, ("take", ("main", ("rooms",)), 0)))[1])
        self.assertEqual(rows[("main", ("rooms",))], (1, 2))
        self.assertEqual(rows[("main", ("rooms", 1, "things", 0, "parts"))][0], 7)

    def test_serial_that_cannot_be_put_in(self):
        for serial in (0, 2, 4, 9):
            self.fails((("put", ANN, 0, serial, CARD),), 0, "serial")
        self.fails((("put", ANN, 0, 3, CARD), ("put", ANN, 0, 3, CARD)), 1, "serial")
        self.fails((("put", ANN, 0, 3, CARD), ("put", BOB, 0, 5, CARD)), 1, "serial")
        self.fails((("put", FOLK, 0, 2, person("Cy", (0, "a"), (0, "a"))),), 0, "serial")
        self.fails((("put", FOLK, 0, 2, person("Cy", (4, "a"))),), 0, "serial")
        self.fails((("put", FOLK, 0, 2, person("Cy", (4, "a"), (3, "a"))),), 0, "serial")
        self.fails((("put", BOB, 0, 2, CARD), ("carry", ANN, 2, BOB, 0)), 1, "serial")

    def test_serial_of_a_row_that_left(self):
        self.fails((("take", ANN, 0), ("put", ANN, 0, 0, CARD)), 1, "serial")
        self.fails((("carry", ANN, 0, BOB, 0), ("put", ANN, 0, 0, CARD)), 1, "serial")
        self.fails((("carry", ANN, 0, BOB, 0), ("carry", BOB, 0, ANN, 0)), 1, "serial")
        self.fails((("take", FOLK, 1), ("put", FOLK, 0, 1, person("Bob"))), 1, "serial")
        self.leaves((("carry", ANN, 0, ANN, 1), ("carry", ANN, 0, BOB, 0)), (0, "Ann", (2, "c")), (1, "Bob", (0, "a"), (1, "b")))
        self.leaves((("take", ANN, 0), ("put", BOB, 0, 0, CARD)), (0, "Ann", (2, "c")), (1, "Bob", (0, "new"), (1, "b")))

    def test_a_rows_place_stays_the_same_where_the_row_around_it_is_carried(self):
        cards = ("main", ("teams", 0, "people", 0, "cards"))
        later = ("main", ("loose", 0, "cards"))
        carry = ("carry", ("main", ("teams", 0, "people")), 0, ("main", ("loose",)), 0)
        card = (("title", "t"), ("cost", 1), ("note", (("words", "w"), ("weight", 0))))
        for steps in ((("take", cards, 2), carry, ("put", later, 0, 2, card)),
                      (("carry", cards, 2, ("other", ("free",)), 0), carry, ("carry", ("other", ("free",)), 2, later, 0))):
            with self.assertRaises(StepError) as caught:
                wish_of(TEAMS.project, steps)
            self.assertEqual((caught.exception.index, caught.exception.word), (2, "serial"))

    def test_index(self):
        self.fails((("put", ANN, 3, 3, CARD),), 0, "index")
        self.fails((("carry", ANN, 0, BOB, 2),), 0, "index")
        self.fails((("carry", ANN, 0, ANN, 2),), 0, "index")
        self.fails((("take", ANN, 0), ("put", ANN, 2, 3, CARD)), 1, "index")

    def test_twice(self):
        name = ("main", ("people", 0, "name"))
        self.fails((("set", name, "x"), ("set", name, "y")), 1, "twice")
        self.fails((("set", name, "Ann"), ("set", name, "Ann")), 1, "twice")
        self.fails((("put", ANN, 0, 3, CARD), ("set", ("main", ("people", 0, "cards", 3, "title")), "y")), 1, "twice")
        self.fails((("put", FOLK, 0, 2, person("Cy", (0, "a"))), ("set", ("main", ("people", 2, "cards", 0, "title")), "y")), 1, "twice")
        self.fails((("set", ("main", ("people", 0, "cards", 2, "title")), "y"), ("carry", ANN, 2, BOB, 0),
                    ("set", ("main", ("people", 1, "cards", 2, "title")), "z")), 2, "twice")

    def test_several_words_at_once(self):
        name = ("main", ("people", 0, "name"))
        nothing = ("main", ("nothing",))
        for steps, index, word in (
                ([("set", nothing, "\n")], 0, "place"), ([("set", name, "x"), ("set", name, 3)], 1, "kind"),
                ([("put", nothing, 9, 9, ())], 0, "place"), ([("put", ANN, 9, 9, ())], 0, "kind"),
                ([("put", ANN, 9, 9, CARD)], 0, "serial"), ([("put", ANN, 9, 3, CARD)], 0, "index"),
                ([("carry", ANN, 9, nothing, 9)], 0, "place"), ([("carry", ANN, 9, FOLK, 9)], 0, "rows"),
                ([("carry", ANN, 9, BOB, 9)], 0, "serial"), ([("carry", ANN, 2, BOB, 9)], 0, "index"),
                ([("take", ANN, 9), ("take", nothing, 9)], 0, "serial"), ([("take", ANN, 0), ("take", nothing, 9)], 1, "place")):
            self.fails(tuple(steps), index, word)


class Forms(Case):
    """Values that are no edit by their form."""

    STEPS = [("set", ("main", ("people", 0, "name")), "x"), ("take", ANN, 0), ("put", FOLK, 0, 2, person("Cy", (3, "x"))),
             ("carry", ANN, 0, BOB, 0)]

    def bad(self, value):
        before = copy.deepcopy(value)
        for ask in (lambda: wish_of(self.made, value), lambda: wished(self.made, value, "nofile"), lambda: changes(self.made, value),
                    lambda: merged(self.made, value, ("none",)), lambda: next(clashes(self.made, (), value))):
            with self.assertRaises(BadEdit) as caught:
                ask()
            self.assertIs(caught.exception.value, value)
        self.assertEqual(value, before)

    def test_any_value(self):
        for value in ANY:
            if value != ():
                self.bad(value)
                self.bad((value,))
                self.bad((self.STEPS[0], value))

    def test_words_and_numbers_of_parts(self):
        for step in self.STEPS:
            self.bad(step)
            self.bad([step])
            self.bad((list(step),))
            self.bad((step + (0,),))
            self.bad((step[:-1],))
            self.bad((step[1:],))
            for word in ("", "Set", "gone", "order", "put ", None, 0, True, ["set"], ("set",), {"set": 1}):
                self.bad(((word,) + step[1:],))

    def test_parts(self):
        places = [None, "main", ("main",), ["main", ("a",)], ("main", ["a"]), ("main", ("a",), 0), (0, ("a",)), ("main", "a"),
                  ("main", ("a", -1)), ("main", ("a", True)), ("main", ("a", None)), ("main", (("a",),)), (None, ("a",)), (("main",), ("a",)),
                  {"main": ("a",)}, ("main", {"a": 1}), ("main", ([],))]
        counts = [None, True, False, -1, "0", (0,), [0], {}]
        records = [None, 0, "", [], {}, ("a",), (("a",),), (("a", 1, 2),), (["a", 1],), ((1, "a"),), (("a", None),), (("a", True),),
                   (("a", [1]),), (("a", ((-1, ()),)),), (("a", ((True, ()),)),), (("a", ((0, 1),)),), (("a", ((0, ((0, ()),)),)),),
                   (("a", ((0, (), 1),)),), (("a", (("b", None),)),), (("a", (("b", 1), (0, ()))),), (("a", ((0, ()), ("b", 1))),),
                   ((("a",), 1),), (("a", ("b", 1)),), (("a", {"b": 1}),), (("a", 1), None)]
        worths = [None, True, False, (), [], {}, ("x",), ["x"]]
        parts = {"set": (places, worths), "take": (places, counts), "put": (places, counts, counts, records),
                 "carry": (places, counts, places, counts)}
        for step in self.STEPS:
            for at, values in enumerate(parts[step[0]]):
                for value in values:
                    self.bad((step[:at + 1] + (value,) + step[at + 2:],))

    def test_bad_forms_come_ahead_of_steps(self):
        self.bad((("take", ANN, 9), ("take", ANN, -1)))
        for ask in (merged, lambda *edits: list(clashes(*edits))):
            with self.assertRaises(StepError):
                ask(self.made, (("take", ANN, 9),), ("no",))

    def test_deep_values(self):
        record = (("a", 1),)
        for _ in range(18):
            record = (("a", ((0, record),)),)
        with self.assertRaises(StepError) as caught:
            wish_of(self.made, (("put", ANN, 0, 3, record),))
        self.assertEqual(caught.exception.word, "kind")
        self.bad((("put", ANN, 0, 3, deep(40, "tuple")),))

    def test_what_has_the_form_but_cannot_be_made(self):
        for step in (("set", ("main", ()), 0), ("set", ("", ("", 0)), ""), ("take", ("x", (0, 0)), 0), ("put", ("x", ()), 0, 0, ()),
                     ("put", ("x", ()), 0, 0, (("", ((0, ()), (0, ()))), ("", ())))):
            with self.assertRaises(StepError) as caught:
                wish_of(self.made, (step,))
            self.assertEqual((caught.exception.index, caught.exception.word), (0, "place"))


class Files(Case):
    def test_no_file_comes_last(self):
        for value in ANY + ["lib", ("main",), ["main"]]:
            with self.assertRaises(NoFile) as caught:
                wished(TEAMS.project, (), value)
            self.assertIs(caught.exception.value, value)

    def test_all_documents(self):
        step = ("carry", ("main", ("all",)), 1, ("other", ("free",)), 0)
        free = wished(TEAMS.project, (step,), "other")[0]
        self.assertEqual((free[0], [serial for serial, _ in free[1]]), ("free", [1, 5]))
        self.assertEqual(free[1][0][1][0], ("title", "b"))
        self.assertEqual([serial for serial, _ in wished(TEAMS.project, (step,), "main")[1][1]], [0, 2, 3, 4, 5])


class Randomly(unittest.TestCase):
    def test_wishes_and_words(self):
        words = {}
        for seed in range(2400):
            ground = GROUNDS[seed % 3]
            edit, flat, fault = edit_by_chance(random.Random(seed), ground, 20)
            if fault is None:
                self.assertEqual(wish_of(ground.project, edit), flat.wish(), edit)
                words[len(edit)] = words.get(len(edit), 0) + 1
                continue
            with self.assertRaises(StepError) as caught:
                wish_of(ground.project, edit)
            self.assertEqual((caught.exception.index, caught.exception.word), fault, edit)
            words[edit[-1][0], fault[1]] = words.get((edit[-1][0], fault[1]), 0) + 1
        for key in (("set", "place"), ("set", "kind"), ("set", "twice"), ("take", "place"), ("take", "serial"), ("put", "place"),
                    ("put", "kind"), ("put", "serial"), ("put", "index"), ("carry", "place"), ("carry", "rows"),
                    ("carry", "serial"), ("carry", "index"), 0, 1, 5, 8):
            self.assertGreater(words.get(key, 0), 2, key)

    def test_worlds(self):
        grounds, made = world_grounds(), 0
        self.assertGreater(len(grounds), 100)
        for seed, ground in enumerate(grounds):
            edit, flat, fault = edit_by_chance(random.Random(seed), ground, 9)
            if fault is None:
                made += len(edit)
                self.assertEqual(wish_of(ground.project, edit), flat.wish(), edit)
                self.assertEqual(changes(ground.project, edit), flat.changes(), edit)
                continue
            with self.assertRaises(StepError) as caught:
                wish_of(ground.project, edit)
            self.assertEqual((caught.exception.index, caught.exception.word), fault, edit)
        self.assertGreater(made, 50)

    def test_labelled_wishes(self):
        for seed in range(300):
            ground = GROUNDS[seed % 3]
            edit, flat, fault = edit_by_chance(random.Random(seed), ground, 6)
            if fault is None:
                again = Flat(ground)
                again.values, again.rows, again.names, again.kinds = {}, {}, {}, {}
                for file, record in ground.documents.items():
                    again.spread(record, wished(ground.project, edit, file), file, (), False)
                self.assertEqual(again.wish(), flat.wish())


if __name__ == "__main__":
    unittest.main()
