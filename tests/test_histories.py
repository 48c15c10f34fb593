"""Points 11 and 14, guarantee (e): two histories that are merged."""

import copy
import random
import unittest

from editing import Ground, Rows, sound_edit
from helping import ANY, project
from joining import is_one_edit, merged_outputs
from sourceback.edits import wish_of, wished
from sourceback.errors import Clash, NoHistory, NotMergeable, Refused, TooLarge, Unrelated
from sourceback.history import History
from sourceback.leading import Led, lead, shows_led, shows_refused
from sourceback.merging import merged
from sourceback.projects import Project
from sourceback.values import labelled, output
from test_examples import PEOPLE, THREE, drag

A, B, ALL = ("main", ("people", 0, "cards")), ("main", ("people", 1, "cards")), ("main", ("people",))
TITLE = ("main", ("people", 0, "cards", 2, "title"))
XY = "document { let x: 1 let y: 1 p: x + y q: x - y }"


def sets(place, value):
    return (("set", place, value),)


def led_by(found, *edits, **costs):
    """A history of a project, led by some edits."""
    history = History(found)
    for edit in edits:
        history.lead(edit, **costs)
    return history


def card(title):
    return (("title", title),)


class Merging(unittest.TestCase):
    def merges(self, history, other, expected, **costs):
        """The merge leads to these outputs of main, as one step; the other history stays as it is."""
        before, there, count = history.project, other.text(), history.place
        led = history.merge(other, **costs)
        self.assertEqual(output(history.project, "main"), expected)
        self.assertEqual(other.text(), there)
        if led is None:
            self.assertEqual((history.place, history.project), (count, before))
            return None
        self.assertIs(type(led), Led)
        self.assertEqual((history.place, len(history), history.project), (count + 1, count + 2, led.project))
        word, edit, plan = history[count + 1]
        self.assertEqual((word, plan), ("merge", led.plan))
        self.assertEqual(labelled(history.project, "main"), wished(before, edit, "main"))
        self.assertTrue(shows_led(before, edit, (led.plan, led.paper), **costs))
        self.assertEqual(History.read(history.text()), history)
        return led

    def clashes(self, history, other, one, two):
        before = history.text()
        with self.assertRaises(Clash) as caught:
            history.merge(other)
        self.assertEqual((caught.exception.one, caught.exception.other), (one, two))
        self.assertEqual(history.text(), before)


class Examples(Merging):
    def test_carried_here_and_named_there(self):
        found = Project((PEOPLE,))
        expected = (("people", ((("name", "Ann"), ("cards", (card("a"),))), (("name", "Bob"), ("cards", (card("cc"), card("b")))))),)
        led = self.merges(led_by(found, drag), led_by(found, sets(TITLE, "cc")), expected)
        self.assertEqual((led.cost, led.plan), (2, (("set", ("main", "tasks", (2, "title")), "cc"),)))
        led = self.merges(led_by(found, sets(TITLE, "cc")), led_by(found, drag), expected)
        self.assertEqual(led.cost, 3)

    def test_carried_here_and_taken_there(self):
        found = Project((PEOPLE,))
        # A card that is taken goes with its task.
        self.clashes(led_by(found, drag), led_by(found, (("take", A, 2),)), ("row", A, 2), ("row", A, 2))

    def test_taken_here_and_named_there(self):
        found = Project((PEOPLE,))
        self.clashes(led_by(found, (("take", A, 2),)), led_by(found, sets(TITLE, "x")), ("row", A, 2), ("value", TITLE))
        self.clashes(led_by(found, sets(TITLE, "x")), led_by(found, (("take", A, 2),)), ("value", TITLE), ("row", A, 2))

    def test_cards_that_come_to_one_gap(self):
        found = Project((PEOPLE,))
        d, x = (("put", B, 1, 3, card("d")),), (("put", B, 1, 3, card("x")),)
        for one, other, titles in ((d, x, "bdx"), (x, d, "bxd")):
            history = led_by(found, one)
            self.merges(history, led_by(found, other), (("people", (
                (("name", "Ann"), ("cards", (card("a"), card("c")))), (("name", "Bob"), ("cards", tuple(card(title) for title in titles))))),))
            self.assertEqual(dict(wish_of(history.project, ())[1])[B], (1, 3, 4))
            self.assertEqual(history.project.next_serial("main", "tasks"), 5)

    def test_x_and_y(self):
        history = led_by(project(XY), sets(("main", ("p",)), 4))
        self.merges(history, led_by(project(XY), sets(("main", ("q",)), 2)), (("p", 4), ("q", 2)))
        self.assertIn("let x: 3 let y: 1", history.project["main"])

    def test_plans_cannot_be_merged(self):
        found = project("document { k: 1 let n: 4 let m: 4 a: if k = 1 then n else m b: k }")
        one = led_by(found, sets(("main", ("k",)), 2) + sets(("main", ("b",)), 2))
        other = led_by(found, sets(("main", ("a",)), 5))
        self.merges(one, other, (("k", 2), ("a", 5), ("b", 2)))
        self.assertIn("k: 2 let n: 4 let m: 5", one.project["main"])


class WhatIsRaised(Merging):
    def test_values_that_are_no_histories(self):
        history = led_by(Project((THREE,)), sets(("main", ("u", "a")), 5))
        for value in ANY + [history.text()]:
            before = copy.deepcopy(value)
            with self.assertRaises(NoHistory) as caught:
                history.merge(value)
            self.assertIs(caught.exception.value, value)
            self.assertEqual(value, before)
        for value in (history.project, history.kept, (history,), [history]):
            self.assertRaises(NoHistory, history.merge, value)
        with self.assertRaises(NoHistory):
            history.merge(other=None, locked=(), change=1)
        with self.assertRaises(TypeError):
            history.merge(history, ())

    def test_unrelated_ones(self):
        history = History(Project((PEOPLE,)))
        gone = lead(Project((PEOPLE,)), (("take", ALL, 0),)).project
        for one, other in [(history, History(Project((THREE,)))), (history, History(project(PEOPLE[1] + " "))), (History(gone), History(Project(gone.files))),
                           (history, History(project(PEOPLE[1], more="")))]:
            for first, second in ((one, other), (other, one)):
                with self.assertRaises(Unrelated):
                    first.merge(second)
        # A history that wrote is unrelated first.
        other = History(Project((THREE,)))
        other.write("main", "")
        self.assertRaises(Unrelated, history.merge, other)

    def test_states_that_were_written(self):
        def history(*words):
            made = History(Project((THREE,)))
            for word in words:
                if word == "write":
                    made.write("more", "document { z: %d }" % len(made))
                else:
                    made.lead(sets(("main", (word, "a")), 5 + len(made)))
            return made
        for here, there, number in [(("write",), (), 1), ((), ("write",), 1), (("u", "write"), (), 2), (("u", "write"), ("u", "v", "write"), 2), (("u", "v"), ("u", "w", "v", "write"), 4),
                                    (("u", "v", "write"), ("write",), 3), (("write", "u"), ("u", "write"), 1), (("u", "write", "write"), ("v", "write"), 2)]:
            one = history(*here)
            before = one.text()
            with self.assertRaises(NotMergeable) as caught:
                one.merge(history(*there))
            self.assertEqual(caught.exception.number, number, (here, there))
            self.assertEqual(one.text(), before)
        # Written in the common states, or taken back, they do not count.
        one, other = history("write", "u"), history("write", "v")
        self.assertEqual(one.merge(other).plan, (("set", ("main", "", ("v", "a")), 7),))
        one, other = history("u", "write"), history("v", "write")
        one.undo()
        other.undo()
        one.merge(other)
        self.assertEqual((len(one), one[2][0]), (3, "merge"))

    def test_a_merge_that_is_refused(self):
        found = Project((PEOPLE,))
        # Two people of one name would show the same cards.
        names = [sets(("main", ("people", serial, "name")), "Cy") for serial in (0, 1)]
        one, other = led_by(found, names[0]), led_by(found, names[1])
        for here, there in ((one, other), (other, one)):
            before = here.text()
            with self.assertRaises(Refused) as caught:
                here.merge(there)
            self.assertEqual((caught.exception.word, here.text()), ("spots", before))
            edit = names[1] if here is one else names[0]
            self.assertTrue(shows_refused(here.project, edit, ("spots", caught.exception.paper)))
        self.assertRaises(Refused, lead, found, names[0] + names[1])

    def test_a_merge_that_is_too_large(self):
        text = "list l (n: number) [ " + "{ n: 1 } " * 26 + "] template t { v: 0 } document { r: for x in l give t { v: x.n } k: 1 m: 2 }"
        found = project(text)
        row = ("main", ("r",))
        one = led_by(found, (("put", row, 0, 26, (("v", 5),)),))
        self.assertEqual(len(one), 2)
        there = led_by(found, (("put", row, 0, 26, (("v", 6),)),))
        before = one.text()
        self.assertEqual(there.merge(led_by(found, sets(("main", ("k",)), 3))).cost, 2)
        # One more item would stay, but for its field: this is what the bound says of the present project.
        one.lead((("put", row, 0, 27, (("v", 5),)),))
        with self.assertRaises(TooLarge) as caught:
            one.merge(there)
        self.assertEqual(caught.exception.word, "spots")


class States(Merging):
    """Which states are common, and what is new there."""

    def test_nothing_new_there(self):
        found = Project((THREE,))
        one = led_by(found, sets(("main", ("u", "a")), 5))
        for other in (History(found), led_by(found, sets(("main", ("u", "a")), 5)), one):
            self.assertIsNone(one.merge(other))
            self.assertEqual(len(one), 2)
        # What came here and went there again is as it was.
        other = led_by(found, sets(("main", ("u", "a")), 7), sets(("main", ("u", "a")), 3))
        self.assertIsNone(one.merge(other))

    def test_nothing_new_here(self):
        found = Project((THREE,))
        other = led_by(found, sets(("main", ("u", "a")), 5), sets(("main", ("v", "a")), 6))
        one = History(found)
        led = one.merge(other)
        self.assertEqual((len(one), one[1][0], len(led.plan)), (2, "merge", 2))
        self.assertEqual(output(one.project, "main"), output(other.project, "main"))
        # The same again: now the steps are other ones, but the values are there already.
        self.assertIsNone(one.merge(other))
        self.assertIsNone(other.merge(one))

    def test_states_that_were_taken_back(self):
        found = Project((THREE,))
        one = led_by(found, sets(("main", ("u", "a")), 5), sets(("main", ("v", "a")), 6))
        one.mark("six")
        one.undo()
        other = led_by(found, sets(("main", ("w", "a")), 7), sets(("main", ("v", "a")), 8))
        other.undo()
        one.merge(other)
        self.assertEqual((len(one), one.marks, output(one.project, "main")),
                         (3, (), (("u", (("a", 5),)), ("v", (("a", 3),)), ("w", (("a", 7),)))))
        # Where nothing is new, they stay.
        again = led_by(found, sets(("main", ("u", "a")), 5), sets(("main", ("v", "a")), 6))
        again.undo()
        self.assertIsNone(again.merge(History(found)))
        self.assertEqual(len(again), 2 + 1)

    def test_the_common_states_end_at_the_present_ones(self):
        found = Project((THREE,))
        edits = [sets(("main", ("u", "a")), 5), sets(("main", ("v", "a")), 6)]
        one, other = led_by(found, *edits), led_by(found, *edits)
        one.undo()
        led = one.merge(other)
        self.assertEqual((one[2][0], led.plan), ("merge", (("set", ("main", "", ("v", "a")), 6),)))
        other.undo()
        self.assertIsNone(led_by(found, *edits).merge(other))

    def test_clashes_are_named_by_the_last_common_state(self):
        found = Project((PEOPLE,))
        common = (drag,)
        one = led_by(found, *common, (("carry", B, 2, A, 0),))
        other = led_by(found, *common, sets(("main", ("people", 1, "cards", 2, "title")), "x"), (("take", B, 2),))
        self.clashes(one, other, ("row", B, 2), ("row", B, 2))
        one = led_by(found, *common, sets(("main", ("people", 1, "cards", 2, "title")), "y"))
        self.clashes(one, other, ("value", ("main", ("people", 1, "cards", 2, "title"))), ("row", B, 2))

    def test_names_are_followed_through_all_states(self):
        found = Project((PEOPLE,))
        one = led_by(found, drag, (("carry", ALL, 1, ALL, 0),))
        other = led_by(found, sets(TITLE, "c"), (("set", TITLE, "cc"), ("set", ("main", ("people", 1, "name")), "Bo")))
        self.assertEqual(one.merge(other).cost, 8)
        self.assertEqual(output(one.project, "main")[0][1][0], (("name", "Bo"), ("cards", (card("cc"), card("b")))))
        # Carried there and back again, over two states.
        there = led_by(found, drag, (("carry", B, 2, A, 1),))
        here = led_by(found, sets(TITLE, "x"))
        self.assertIsNone(here.merge(there))
        self.assertEqual(there.merge(here).cost, 2)

    def test_items_that_came_and_are_gone_again(self):
        found = Project((PEOPLE,))
        there = led_by(found, (("put", A, 0, 3, card("new")),), (("take", A, 3),))
        here = led_by(found, (("put", A, 2, 3, card("here")),))
        self.assertIsNone(here.merge(there))
        there.lead((("put", A, 0, 4, card("again")),))
        here.merge(there)
        self.assertEqual(dict(wish_of(here.project, ())[1])[A], (4, 0, 2, 3))
        # Also items that are gone here have had their serials.
        here = led_by(found, (("put", A, 0, 3, card("new")),), (("take", A, 3),))
        here.merge(there)
        self.assertEqual((dict(wish_of(here.project, ())[1])[A], here.project.next_serial("main", "tasks")), ((4, 0, 2), 5))

    def test_an_item_that_is_gone_here_and_shown_anew_there(self):
        found = project("list l (n: number) [ { n: 0 } { n: 1 } { n: 0 } ] template t { v: 0 } document { "
                        "a: for x in l where x.n = 0 give t { v: x.n } b: for x in l where x.n = 1 give t { v: 1 } }")
        a, b = ("main", ("a",)), ("main", ("b",))
        one = led_by(found, (("take", a, 2),))
        other = led_by(found, (("carry", a, 0, b, 0), ("set", ("main", ("b", 0, "v")), 1)))
        one.merge(other)
        self.assertEqual(output(one.project, "main"), (("a", ()), ("b", ((("v", 1),), (("v", 1),)))))

    def test_rows_of_old_items_keep_their_serials(self):
        found = project(PEOPLE[1].replace('{ title: "c" owner: "Ann" }', '{ title: "c" owner: "Ann" } { title: "d" owner: "" }'))
        there = led_by(found, (("put", B, 1, 3, card("d")),))
        here = led_by(found, (("put", A, 0, 4, card("e")),))
        led = here.merge(there)
        self.assertEqual((led.cost, led.plan), (2, (("set", ("main", "tasks", (3, "owner")), "Bob"),)))
        self.assertEqual(dict(wish_of(here.project, ())[1])[B], (1, 3))

    def test_an_old_item_that_is_gone_here_is_a_new_one(self):
        found = project("list l (n: number, v: number) [ { n: 0 v: 7 } { n: 2 v: 8 } ] template t { v: 0 } document { "
                        "a: for x in l where x.n = 0 give t { v: x.v } b: for x in l where x.n = 1 give t { v: x.v } }")
        a, b = ("main", ("a",)), ("main", ("b",))
        split = project(found["main"].replace("n: 0 v: 7", "n: 0 v: 8"), two="import main document { c: for x in l where x.v = 8 give t }")
        here = led_by(split, (("take", a, 0), ("take", ("two", ("c",)), 0)))
        self.assertEqual(here.project.serials("main", "l"), (1,))
        there = led_by(split, (("carry", a, 0, b, 0),))
        self.assertRaises(Clash, here.merge, there)
        # A row of its own there is another row than the one that is taken here.
        apart = project("list l (n: number, k: number) [ { n: 1 k: 0 } ] template t { } document { "
                        "a: for x in l where x.n = 1 give t b: for x in l where x.k = 1 give t }")
        here, there = led_by(apart, (("take", a, 0),)), led_by(apart, (("put", b, 0, 0, ()),))
        led = here.merge(there)
        self.assertEqual(led.plan[0], ("order", "main", "l", (1,)))
        self.assertEqual((dict(wish_of(here.project, ())[1]), here.project.next_serial("main", "l")), ({a: (), b: (1,)}, 2))

    def test_a_new_item_has_one_serial_in_all_its_rows(self):
        found = project("list l (n: number) [ { n: 1 } ] template t { v: 0 } document { a: for x in l give t { v: x.n } b: for x in l give t { v: 2 * x.n } }")
        a, b = ("main", ("a",)), ("main", ("b",))

        def put(serial, value):
            return (("put", a, 0, serial, (("v", value),)), ("put", b, 0, serial, (("v", 2 * value),)))
        here, there = led_by(found, put(1, 5)), led_by(found, put(1, 6), put(2, 7))
        led = here.merge(there)
        self.assertEqual(led.cost, 6)
        rows = dict(wish_of(here.project, ())[1])
        self.assertEqual((rows[a], sorted(rows[a])), (rows[b], [0, 1, 2, 3]))
        self.assertEqual(output(here.project, "main")[0], ("a", tuple((("v", value),) for value in (5, 7, 6, 1))))

    def test_a_row_put_back_is_the_one_that_stood_there(self):
        found = project("list l (n: number, k: number, v: number, w: number) [ { n: 1 k: 0 v: 5 w: 6 } { n: 0 k: 1 v: 7 w: 8 } ] template t { v: 0 } template u { "
                        "a: for x in l where x.n = 1 give t { v: x.v } b: for x in l where x.k = 1 give t { v: x.w } } document { in: new u }".replace("in:", "box:"))
        a, b = ("main", ("box", "a")), ("main", ("box", "b"))
        # Taken, while the item is still shown elsewhere, and put back: nothing is changed in the end.
        both = led_by(found, (("put", b, 0, 0, (("v", 6),)),))
        there = led_by(found, (("put", b, 0, 0, (("v", 6),)),), (("take", a, 0),), (("put", a, 0, 0, (("v", 5),)),))
        self.assertIsNone(both.merge(there))
        here = led_by(found, (("put", b, 0, 0, (("v", 6),)),), (("set", ("main", ("box", "a", 0, "v")), 9),))
        self.assertIsNone(here.merge(there))
        self.assertEqual(there.merge(here).plan, (("set", ("main", "l", (0, "v")), 9),))
        # The row that was carried away is not the one that stands there again.
        there = led_by(found, (("carry", a, 0, b, 1), ("set", ("main", ("box", "b", 0, "v")), 6)), (("put", a, 0, 0, (("v", 5),)),))
        here = led_by(found, (("set", ("main", ("box", "a", 0, "v")), 9),))
        here.merge(there)
        self.assertEqual(output(here.project, "main"), (("box", (("a", ((("v", 9),),)), ("b", ((("v", 8),), (("v", 6),))))),))

    def test_all_rows_taken_and_one_put_back(self):
        two = project(PEOPLE[1], other="import main document { all: for t in tasks give card { title: t.title } }")
        taken = tuple(("take", place, serial) for place, serial in ((A, 0), (A, 2), (B, 1)))
        there = led_by(two, taken, (("put", A, 0, 2, card("c")),))
        title = ("other", ("all", 2, "title"))
        here = led_by(two, sets(TITLE, "x") + sets(title, "x"))
        here.merge(there)
        self.assertEqual(dict(wish_of(here.project, ())[0])[TITLE], "x")
        self.assertEqual([dict(wish_of(here.project, ())[1])[place] for place in (A, B)], [(2,), ()])
        self.clashes(led_by(two, sets(("main", ("people", 0, "cards", 0, "title")), "x") + sets(("other", ("all", 0, "title")), "x")), there,
                     ("value", ("main", ("people", 0, "cards", 0, "title"))), ("row", A, 0))

    def test_locked_files_and_costs_are_handed_on(self):
        found = project(lib="template t { a: 3 }", main="import lib document { u: new t v: new t }")
        both = (("set", ("main", ("u", "a")), 5), ("set", ("main", ("v", "a")), 5))
        self.assertEqual(History(found).merge(led_by(found, both)).plan, (("set", ("lib", "t", ("a",)), 5),))
        self.assertEqual(len(History(found).merge(led_by(found, both), locked=("lib",)).plan), 2)
        self.assertEqual(History(found).merge(led_by(found, both), change=9, add=1).cost, 2)
        with self.assertRaises(Refused):
            History(found).merge(led_by(found, both), locked=("lib", "main"))


BOARD = """
list people (name: text) [ { name: "Ann" } { name: "Bob" } ]
list tasks (title: text, owner: text) [
    { title: "a" owner: "Ann" } { title: "b" owner: "Bob" } { title: "c" owner: "Ann" } { title: "d" owner: "Bob" } { title: "e" owner: "" } ]
template card { title: "" }
template person { name: "" cards: for t in tasks where t.owner = name give card { title: t.title } }
document { people: for p in people give person { name: p.name } free: for t in tasks where t.owner = "" give card { title: t.title } }
"""
ROOMS = """
list rooms (n: number) [ { n: 0 } { n: 1 } ]
list things (n: number, k: number) [ { n: 0 k: 1 } { n: 1 k: 2 } { n: 0 k: 3 } { n: 7 k: 4 } ]
template thing { k: 0 }
template room { n: 0 size: 1 things: for t in things where t.n = n give thing { k: t.k } }
document { rooms: for r in rooms give room { n: r.n } others: for t in things where t.n = 7 give thing { k: t.k } sum: 2 * m let m: 3 }
"""
CARDS = Rows(("main", "tasks"), "card", [("title", "text")])
THINGS = Rows(("main", "things"), "thing", [("k", "number")])
BOARDS = [
    (BOARD, [("people", Rows(("main", "people"), "person", [("name", "text"), ("cards", CARDS)])), ("free", CARDS)], [("main", "people"), ("main", "tasks")]),
    (ROOMS, [("rooms", Rows(("main", "rooms"), "room", [("n", "number"), ("size", "number"), ("things", THINGS)])), ("others", THINGS), ("sum", "number")],
     [("main", "rooms"), ("main", "things")]),
]


class ByChance(Merging):
    """Two histories, each led by up to four edits, beside outputs that are followed a second way."""

    def ground(self, found, at):
        _, record, lists = BOARDS[at]
        return Ground(found, {"main": record}, lists)

    def lead_on(self, history, at, chance, most):
        """Lead a history by some edits; return those that added a state."""
        edits = []
        for _ in range(most * 4):
            edit, _ = sound_edit(chance, self.ground(history.project, at), chance.choice((1, 1, 2)))
            try:
                if len(edits) < most and history.lead(edit).plan:
                    edits.append(edit)
            except (Refused, TooLarge):
                continue
        return edits

    def test_boards(self):
        chance = random.Random(1)
        seen = {}
        for number in range(260):
            at = chance.randrange(len(BOARDS))
            found = project(BOARDS[at][0])
            one = History(found)
            common = self.lead_on(one, at, chance, chance.choice((0, 0, 1)))
            other = led_by(found, *common)
            base = one.project
            here = self.lead_on(one, at, chance, chance.randrange(3 if number % 4 else 5))
            there = self.lead_on(other, at, chance, chance.randrange(1, 3 if number % 4 else 5))
            word = self.compare(one, other, self.ground(base, at), here, there)
            seen[word] = seen.get(word, 0) + 1
        for word, least in (("clash", 30), ("led", 60), ("nothing", 3), ("refused", 0)):
            self.assertGreater(seen.get(word, 0), least, seen)

    def compare(self, one, other, ground, here, there):
        base, before = ground.project, one.text()
        while here and there and here[0] == there[0]:
            # Equal steps lead to one more common state.
            ground = Ground(lead(ground.project, here[0]).project, ground.documents, list(ground.serials))
            base, here, there = ground.project, here[1:], there[1:]
        clash, expected = merged_outputs(ground, here, there)
        if clash is not None:
            self.clashes(one, other, *clash)
            return "clash"
        try:
            led = self.merges(one, other, expected["main"])
        except (Refused, TooLarge) as error:
            self.assertEqual(one.text(), before)
            self.same_from_the_common_state(base, ground, here, there, type(error))
            return "refused" if isinstance(error, Refused) else "large"
        self.same_from_the_common_state(base, ground, here, there, None)
        return "nothing" if led is None else "led"

    def same_from_the_common_state(self, base, ground, here, there, refused):
        """The merge can be led back just if the merged wish can from the state that both have in common."""
        if refused is TooLarge or not is_one_edit(ground, here) or not is_one_edit(ground, there):
            return
        edit = merged(base, sum(here, ()), sum(there, ()))
        if refused is None:
            lead(base, edit)
        else:
            with self.assertRaises(Refused):
                lead(base, edit)


if __name__ == "__main__":
    unittest.main()
