"""Points 14 and 16, guarantee (f): histories, beside a list of states that is kept by hand."""

import copy
import random
import types
import unittest

from helping import ANY, project
from sourceback.edits import wish_of
from sourceback.errors import (
    BackError, BadEdit, BadFiles, BadText, NoMark, NoState, NothingToRedo, NothingToUndo, Refused, SourceError, StepError,
    TooLarge)
from sourceback.history import History
from sourceback.kept import Kept
from sourceback.leading import Led, lead
from sourceback.plans import made
from sourceback.projects import Project
from sourceback.texts import show_edit, show_plan
from sourceback.traces import things, trace
from sourceback.values import labelled, output
from test_examples import PEOPLE, SUMS, THREE, drag

A, B, ALL = ("main", ("people", 0, "cards")), ("main", ("people", 1, "cards")), ("main", ("people",))
U = ("main", ("u", "a"))


def sets(place, value):
    return (("set", place, value),)


def serials(found):
    return [(key, found.serials(*key), found.next_serial(*key)) for key in found.lists()]


def all_told(kept):
    """All that can be asked of kept values and their project."""
    found = kept.project
    return (found.files, serials(found), kept.worked, len(kept), [(thing, kept[thing]) for thing in things(found)],
            [(file, output(found, file), labelled(found, file)) for file in found.documents])


class Shadow:
    """A history by hand: how the states came, their kept values, the present one, the marks."""

    def __init__(self, found):
        self.steps, self.keeps, self.at, self.marks = [None], [Kept(found)], 0, {}

    def now(self):
        return self.keeps[self.at]

    def add(self, step, kept):
        del self.steps[self.at + 1:], self.keeps[self.at + 1:]
        self.steps.append(step)
        self.keeps.append(kept)
        self.marks = {name: number for name, number in self.marks.items() if number <= self.at}
        self.at += 1

    def lead(self, edit, **costs):
        led = lead(self.now().project, edit, **costs)
        if led.plan:
            self.add(("lead", edit, led.plan), self.now().changed(led.plan))

    def write(self, name, text):
        found = self.now().project.written(name, text)
        if found != self.now().project:
            self.add(("write", name, text), self.now().rewritten(name, text))

    def undo(self):
        if not self.at:
            raise NothingToUndo()
        self.at -= 1

    def redo(self):
        if self.at + 1 == len(self.steps):
            raise NothingToRedo()
        self.at += 1

    def mark(self, name):
        if name == "New":
            raise NoMark(name)
        self.marks[name] = self.at

    def go(self, name):
        if name not in self.marks:
            raise NoMark(name)
        self.at = self.marks[name]

    def text(self):
        first = self.keeps[0].project
        lines = ["file %s %s" % (name, text.replace("\n", "\\n")) for name, text in first.files]
        for (file, name), told, following in serials(first):
            if told != tuple(range(len(told))) or following != len(told):
                lines.append("serials %s/%s %s next %d" % (file, name, " ".join("#%d" % at for at in told) or "-", following))
        for step in self.steps[1:]:
            if step[0] == "write":
                lines.append("drop " + step[1] if step[2] is None else "write %s %s" % (step[1], step[2].replace("\n", "\\n")))
            else:
                lines.append("%s %s | %s" % (step[0], show_edit(step[1]), show_plan(step[2])))
        lines += ["mark %s %d" % pair for pair in sorted(self.marks.items())]
        return "\n".join(lines + ["at %d" % self.at])


class Beside(unittest.TestCase):
    def same(self, history, shadow):
        """All that can be asked of a history is as the shadow tells."""
        self.assertEqual((len(history), history.place, history.marks), (len(shadow.steps), shadow.at, tuple(sorted(shadow.marks.items()))))
        self.assertEqual([history[number] for number in range(len(history))], shadow.steps)
        self.assertEqual([(found.files, serials(found)) for found in history.states()],
                         [(kept.project.files, serials(kept.project)) for kept in shadow.keeps])
        self.assertEqual(all_told(history.kept), all_told(shadow.now()))
        self.assertEqual((history.project.files, serials(history.project)), (shadow.now().project.files, serials(shadow.now().project)))

    def everywhere(self, history):
        """What can be asked of each state, gone through within a trial."""
        with history.trial():
            while history.place:
                history.undo()
            found = [all_told(history.kept)]
            while history.place + 1 < len(history):
                history.redo()
                found.append(all_told(history.kept))
        return found

    def reads_back(self, history):
        again = History.read(history.text())
        self.assertIs(type(again), History)
        self.assertEqual(again, history)
        self.assertEqual(again.text(), history.text())
        self.assertEqual(self.everywhere(again), self.everywhere(history))
        self.assertEqual((again.place, again.marks, [again[at] for at in range(len(again))]),
                         (history.place, history.marks, [history[at] for at in range(len(history))]))
        return again


class Histories(Beside):
    def test_the_example(self):
        history = History(Project((THREE,)))
        self.assertEqual(
            [history.lead((("set", ("main", ("u", "a")), 5),)).cost, history.mark("now"), history.undo(), history.place, len(history), history.text().split("\n")[1:]],
            [3, None, None, 0, 2, ['lead set main/u.a 5 | set main//u.a 5', 'mark now 1', 'at 0']])
        self.reads_back(history)

    def test_a_new_one(self):
        history = History(Project((THREE,)))
        self.assertEqual((len(history), history.place, history.marks, history[0]), (1, 0, (), None))
        self.assertIs(type(history.kept), Kept)
        self.assertEqual(history.kept.worked, things(history.project))
        self.assertEqual(history.text(), "file main " + THREE[1] + "\nat 0")
        self.assertIs(type(history.states()), types.GeneratorType)

    def test_what_the_methods_return(self):
        history = History(Project((PEOPLE,)))
        led = history.lead(edit=drag, locked=(), move=2)
        self.assertIs(type(led), Led)
        self.assertEqual((led.cost, led.plan, led.paper), (4,) + (lambda other: (other.plan, other.paper))(lead(Project((PEOPLE,)), drag, move=2)))
        self.assertEqual(led.project, history.project)
        self.assertIsNone(history.write(name="main", text=history.project["main"] + " "))
        self.assertIsNone(history.mark(name="here"))
        self.assertIsNone(history.undo())
        self.assertIsNone(history.redo())
        self.assertIsNone(history.undo())
        self.assertIsNone(history.go(name="here"))
        self.assertEqual([history[number] and history[number][0] for number in range(3)], [None, "lead", "write"])
        self.assertEqual(history[1], ("lead", drag, led.plan))
        self.assertEqual(history[2], ("write", "main", history.project["main"]))

    def test_what_changes_nothing_adds_no_state_and_drops_none(self):
        history = History(Project((THREE,)))
        history.lead(sets(U, 5))
        history.mark("five")
        history.undo()
        led = history.lead(sets(U, 3))
        self.assertEqual((led.plan, led.cost, led.project), ((), 0, history.project))
        history.lead(())
        history.write("main", THREE[1])
        history.write("nofile", None)
        history.write([None], None)
        self.assertEqual((len(history), history.place, history.marks), (2, 0, (("five", 1),)))
        history.redo()
        self.assertEqual(dict(wish_of(history.project, ())[0])[U], 5)

    def test_states_that_are_dropped_lose_their_marks(self):
        history = History(Project((THREE,)))
        for value in (5, 6, 7):
            history.lead(sets(U, value))
            history.mark("abc"[value - 5])
        history.go("a")
        history.lead(sets(U, 9))
        self.assertEqual((len(history), history.place, history.marks), (3, 2, (("a", 1),)))
        for name in ("b", "c"):
            self.assertRaises(NoMark, history.go, name)
        self.assertRaises(NothingToRedo, history.redo)
        history.mark("a")
        self.assertEqual(history.marks, (("a", 2),))

    def test_undo_and_redo_at_the_ends(self):
        history = History(Project((THREE,)))
        self.assertRaises(NothingToUndo, history.undo)
        self.assertRaises(NothingToRedo, history.redo)
        history.lead(sets(U, 5))
        self.assertRaises(NothingToRedo, history.redo)
        history.undo()
        self.assertRaises(NothingToUndo, history.undo)

    def test_marks_that_are_no_names(self):
        history = History(Project((THREE,)))
        history.lead(sets(U, 5))
        history.mark("here")
        for value in ANY + ["New", "new", "here ", "let", "x" * 13, "a1", ("here",), ["here"], b"here"]:
            before = copy.deepcopy(value)
            for ask in (history.mark, history.go):
                with self.assertRaises(NoMark) as caught:
                    ask(value)
                self.assertIs(caught.exception.value, value)
            self.assertEqual(value, before)
        self.assertRaises(NoMark, history.go, "there")
        self.assertEqual((history.marks, history.place), ((("here", 1),), 1))

    def test_numbers_of_states(self):
        history = History(Project((THREE,)))
        history.lead(sets(U, 5))
        history.undo()
        self.assertEqual((history[0], history[1][0]), (None, "lead"))
        for value in [other for other in ANY if other != 0 and other != 1 or isinstance(other, bool)] + [2, -2, "0", (0,), [1], 1 << 70]:
            with self.assertRaises(NoState) as caught:
                history[value]
            self.assertIs(caught.exception.value, value)

    def test_calls_that_raise_change_nothing(self):
        history = History(Project((PEOPLE,)))
        history.lead(drag)
        history.mark("here")
        history.lead(sets(("main", ("people", 1, "name")), "Rob"))
        history.undo()
        before, everything = history.text(), self.everywhere(history)
        for error, ask in [
                (BadEdit, lambda: history.lead(None)), (StepError, lambda: history.lead((("take", A, 1),))),
                (Refused, lambda: history.lead(sets(("main", ("people", 0, "name")), "Bob"))), (BadFiles, lambda: history.write("Main", "")),
                (BadFiles, lambda: history.write("main", None)), (BadFiles, lambda: history.write("main", "\\")), (BadFiles, lambda: history.write(None, "")),
                (SourceError, lambda: history.write("main", "document {")), (SourceError, lambda: history.write("other", "import x")),
                (NoMark, lambda: history.go("there")), (NoState, lambda: history[9]), (TypeError, lambda: history.lead((), ())),
                (TypeError, lambda: history.lead((), price=3))]:
            self.assertRaises(error, ask)
            self.assertEqual(history.text(), before)
        self.assertEqual(self.everywhere(history), everything)
        large = History(project("document { " + " ".join(f"{a}{b}: 1" for a in "abcdefgh" for b in "abcdefgh") + " }"))
        self.assertRaises(TooLarge, large.lead, ())

    def test_equal_ones(self):
        def made_by(*calls):
            history = History(Project((THREE,)))
            for call in calls:
                call(history)
            return history
        five, six, undo = lambda h: h.lead(sets(U, 5)), lambda h: h.lead(sets(U, 6)), lambda h: h.undo()
        write, mark = lambda h: h.write("more", "document { }"), lambda h: h.mark("m")
        one = made_by(five, six)
        self.assertEqual(one, made_by(five, six, undo, lambda h: h.redo()))
        self.assertEqual(one, made_by(write, undo, five, six))
        self.assertEqual(one, made_by(six, undo, five, six))
        for other in (made_by(five), made_by(five, six, undo), made_by(six, five), made_by(five, six, mark), made_by(five, mark, six), made_by(five, write), made_by()):
            self.assertFalse(one == other)
            self.assertTrue(one != other)
        for value in ANY + [one.text(), one.project, one.kept, (one,), [one]]:
            self.assertFalse(one == value)
            self.assertTrue(one != value)
        dear = made_by(lambda h: h.lead(sets(U, 5) + sets(("main", ("v", "a")), 5)))
        other = made_by(lambda h: h.lead(sets(U, 5) + sets(("main", ("v", "a")), 5), change=9))
        self.assertFalse(dear == other)
        # The serials of the first states count.
        gone = lead(Project((PEOPLE,)), (("take", ALL, 0),)).project
        self.assertFalse(History(gone) == History(Project(gone.files)))
        self.assertEqual(History(gone), History(made(Project((PEOPLE,)), lead(Project((PEOPLE,)), (("take", ALL, 0),)).plan)))
        back = made(made(Project((PEOPLE,)), (("order", "main", "people", (1, 0)),)), (("order", "main", "people", (0, 1)),))
        self.assertEqual(History(back), History(Project((PEOPLE,))))


class Trials(Beside):
    def test_what_is_done_in_a_trial_is_undone(self):
        history = History(Project((THREE,)))
        history.lead(sets(U, 5))
        history.lead(sets(U, 6))
        history.mark("six")
        history.undo()
        before, everything = history.text(), self.everywhere(history)
        with history.trial() as same:
            self.assertIs(same, history)
            history.lead(sets(U, 7))
            history.mark("six")
            history.write("more", "document { }")
            history.undo()
            self.assertEqual((len(history), history.marks), (4, (("six", 2),)))
        self.assertEqual((history.text(), self.everywhere(history)), (before, everything))

    def test_an_error_leaves_it(self):
        history = History(Project((THREE,)))
        before = history.text()
        with self.assertRaises(ZeroDivisionError):
            with history.trial():
                history.lead(sets(U, 5))
                1 // 0
        self.assertEqual(history.text(), before)
        with self.assertRaises(NothingToUndo):
            with history.trial():
                history.undo()
        self.assertEqual(history.text(), before)

    def test_trials_within_trials(self):
        history = History(Project((THREE,)))
        texts = [history.text()]
        with history.trial():
            history.lead(sets(U, 5))
            texts.append(history.text())
            with history.trial():
                history.undo()
                history.lead(sets(U, 6))
                with history.trial():
                    history.mark("deep")
                self.assertEqual(history.marks, ())
            self.assertEqual(history.text(), texts[1])
        self.assertEqual(history.text(), texts[0])

    def test_one_block_used_twice_and_within_itself(self):
        history = History(Project((THREE,)))
        trial = history.trial()
        history.lead(sets(U, 5))
        for _ in range(2):
            with trial:
                history.undo()
                with trial:
                    history.write("more", "document { }")
                self.assertEqual((history.place, len(history)), (0, 2))
            # The state is that when the block began, not when the trial was made.
            self.assertEqual((history.place, len(history)), (1, 2))

    def test_tried(self):
        history = History(Project((THREE,)))
        before = history.text()

        def look(found):
            self.assertIs(found, history)
            found.lead(sets(U, 5))
            return found.text()
        self.assertEqual(history.tried(look).split("\n")[-1], "at 1")
        self.assertEqual(history.tried(look=lambda found: [None]), [None])
        self.assertIsNone(history.tried(lambda found: None))
        with self.assertRaises(NothingToRedo):
            history.tried(lambda found: found.lead(sets(U, 5)) and found.redo())
        self.assertEqual(history.text(), before)


LIB = 'template t { a: 3 b: 2 * a }\nlist l (n: number) [ { n: 1 } # one\n { n: 2 } { n: 3 } ]\n'
MAIN = 'import lib document { u: new t v: new t { a: 5 } let h: 2 r: for x in l where x.n = h give t { a: x.n } all: for x in l give t { b: x.n } }'


class ByChance(Beside):
    """Some eighteen calls one behind another; behind each one all is as the shadow tells."""

    def call(self, history, shadow, chance):
        """A call by chance, to both; both return or raise the same."""
        now = shadow.now().project
        values = wish_of(now, ())[0]
        rows = wish_of(now, ())[1]
        what = chance.random()
        if what < 0.35:
            word, told = "lead", (self.edit(now, values, rows, chance),)
        elif what < 0.55:
            word, told = "write", self.file(now, chance)
        elif what < 0.7:
            word, told = "undo", ()
        elif what < 0.8:
            word, told = "redo", ()
        elif what < 0.9:
            word, told = "mark", (chance.choice(("a", "b", "c", "New")),)
        else:
            word, told = "go", (chance.choice(("a", "b", "c")),)
        ends = []
        for one in (history, shadow):
            try:
                getattr(one, word)(*told)
                ends.append(None)
            except BackError as error:
                ends.append((type(error), vars(error)))
        self.assertEqual(ends[0], ends[1], (word, told))
        return ends[0] is None and word

    def edit(self, now, values, rows, chance):
        what = chance.random()
        if not values or what < 0.1:
            return ()
        place, value = chance.choice(values)
        if what < 0.6 or not rows:
            return sets(place, chance.choice((2, 3, 5, 8)) if isinstance(value, int) else chance.choice(("Ann", "Bob", "x y; z")))
        place, told = chance.choice(rows)
        if what < 0.8 and told:
            return (("take", place, chance.choice(told)),)
        return (("carry", place, chance.choice(told or (0,)), place, chance.randrange(len(told) + 1)),)

    def file(self, now, chance):
        name = chance.choice(now.names)
        what = chance.random()
        if what < 0.3:
            return name, now[name] + chance.choice(("", " ", "\n", " # more"))
        if what < 0.5:
            return name, now[name].replace(chance.choice(("3", "2", "Ann")), chance.choice(("5", "4", '7', "Bob")), 1)
        if what < 0.6:
            return name, now[name] + " }"
        if what < 0.8:
            return "more", chance.choice(("document { k: 1 l: k }", "document { k: 2 l: k }", "", None))
        return chance.choice((("main", None), ("lib", None), ("a b", ""), ("more", None), ("main", "document { }")))

    def test_calls(self):
        chance = random.Random(1)
        done = {}
        for at in range(24):
            found = chance.choice((project(lib=LIB, main=MAIN), Project((PEOPLE,)), Project((THREE,)), lead(Project((PEOPLE,)), (("take", ALL, 0),)).project))
            history, shadow = History(found), Shadow(found)
            self.same(history, shadow)
            for _ in range(18):
                word = self.call(history, shadow, chance)
                done[word] = done.get(word, 0) + 1
                self.same(history, shadow)
                self.assertEqual(history.text(), shadow.text())
                if chance.random() < 0.1:
                    self.in_trial(history, shadow, chance)
            self.assertEqual(self.everywhere(history), [all_told(kept) for kept in shadow.keeps])
            for number, kept in enumerate(shadow.keeps):
                fresh = Kept(kept.project)
                self.assertEqual([kept[thing] for thing in things(kept.project)], [fresh[thing] for thing in things(kept.project)])
                self.assertEqual(kept.worked, self.worked(shadow.keeps[number - 1] if number else None, kept))
            self.reads_back(history)
        self.assertGreater(min(done.get(word, 0) for word in ("lead", "write", "undo", "redo", "mark", "go")), 8, done)

    def worked(self, before, kept):
        """The things whose traces are other ones than before."""
        old = {} if before is None else {thing: list(trace(before.project, thing)) for thing in things(before.project)}
        return tuple(thing for thing in things(kept.project) if old.get(thing) != list(trace(kept.project, thing)))

    def in_trial(self, history, shadow, chance):
        inner = Shadow(shadow.keeps[0].project)
        inner.steps, inner.keeps, inner.at, inner.marks = list(shadow.steps), list(shadow.keeps), shadow.at, dict(shadow.marks)
        with history.trial():
            for _ in range(4):
                self.call(history, inner, chance)
                self.same(history, inner)
        self.same(history, shadow)


class Texts(Beside):
    def told(self):
        """A history with lines of all forms."""
        found = lead(project(lib=LIB, main=MAIN), (("take", ("main", ("all",)), 0),)).project
        history = History(found)
        history.mark("zero")
        history.lead((("set", ("main", ("u", "a")), 4), ("set", ("main", ("u", "b")), 8)))
        history.write("more", 'document {\n    s: "a | b; c" # one\n}')
        history.write("empty", "")
        history.lead((("set", ("main", ("u", "a")), 5), ("set", ("main", ("u", "b")), 10), ("set", ("more", ("s",)), 'x | y; z')))
        history.mark("here")
        history.write("empty", None)
        history.lead((("put", ("main", ("all",)), 0, 3, (("a", 3), ("b", 9))),))
        history.undo()
        return history

    def refused(self, value):
        with self.assertRaises(BadText) as caught:
            History.read(value)
        self.assertIs(caught.exception.value, value)

    def test_lines(self):
        lines = self.told().text().split("\n")
        self.assertEqual([line.split(" ")[0] for line in lines],
                         ["file", "file", "serials", "lead", "write", "write", "lead", "drop", "lead", "mark", "mark", "at"])
        self.assertEqual(lines[0], "file lib " + LIB.replace("[ { n: 1 }", "[").replace("\n", "\\n"))
        self.assertEqual(lines[2], "serials lib/l #1 #2 next 3")
        self.assertEqual(lines[3], "lead set main/u.a 4; set main/u.b 8 | set main//u.a 4")
        self.assertEqual(lines[4:6], ['write more document {\\n    s: "a | b; c" # one\\n}', "write empty "])
        self.assertEqual(lines[6], 'lead set main/u.a 5; set main/u.b 10; set more/s "x | y; z" | set main//u.a 5; set more//s "x | y; z"')
        self.assertEqual(lines[7:], ["drop empty", lines[8], "mark here 4", "mark zero 0", "at 5"])
        self.reads_back(self.told())

    def test_lists_without_items(self):
        for edit in ((("take", ("main", ("r",)), 0),), ()):
            found = lead(project("list l () [ { } ] template t { } document { r: for x in l give t }"), edit).project
            history = History(found)
            self.assertEqual("serials main/l - next 1" in history.text(), bool(edit))
            history.lead((("put", ("main", ("r",)), 0, 1, ()),))
            self.reads_back(history)

    def test_lines_left_out_twice_and_at_wrong_places(self):
        lines = self.told().text().split("\n")
        for at, line in enumerate(lines):
            # Without some of the steps there are fewer states, of which all are as they must be.
            if at in (0, 1, 2, 4, 5, 11):
                self.refused("\n".join(lines[:at] + lines[at + 1:]))
            self.refused("\n".join(lines[:at] + [line] + lines[at:]))
            for to in range(len(lines)):
                other = lines[:at] + lines[at + 1:]
                other.insert(to, line)
                steps = [other[0] for other in enumerate(lines) if other[1].split(" ")[0] in ("lead", "write", "drop")]
                if other != lines and not (at in steps and to in steps):
                    self.refused("\n".join(other))
        # The two files may be written one before the other, but not behind what needs them.
        turned = "\n".join(lines[:4] + [lines[5], lines[4]] + lines[6:])
        self.assertEqual(History.read(turned).text(), turned)
        for at, to in ((4, 6), (5, 7), (7, 4), (6, 3)):
            other = lines[:at] + lines[at + 1:]
            other.insert(to, lines[at])
            self.refused("\n".join(other))
        for at in (9, 10):
            again = History.read("\n".join(lines[:at] + lines[at + 1:]))
            self.assertEqual(again.marks, (("here", 4),) if at == 10 else (("zero", 0),))

    def test_lines_with_another_number(self):
        text = self.told().text()
        for old, new in [("next 3", "next 2"), ("next 3", "next 1"), ("#1 #2 next", "#2 #2 next"), ("#1 #2 next", "#1 next"), ("#1 #2 next", "#1 #2 #0 next"),
                         ("#1 #2 next", "#1 #3 next"), ("mark here 4", "mark here 7"), ("at 5", "at 7"), ("at 5", "at -1"), ("at 5", "at 05"), ("at 5", "at"), ("at 5", "at "),
                         ("at 5", "at 5 "), ("at 5", "at 5\n"), ("at 5", "at five"), ("at 5", "at  5"), ("mark here 4", "mark Here 4"), ("mark here 4", "mark here  4"),
                         ("mark here 4", "mark here"), ("mark zero 0", "mark zero 00"), ("set main//u.a 4", "set main//u.a 5"), ("u.b 8 |", "u.b 6 |"), ("u.b 8 |", "v.b 8 |"),
                         (" | set main//u.a 4", " | -"), (" | set main//u.a 4", ""), (" | set main//u.a 4", " | set main//v.a 5; set main//u.a 4"), ("lead set main/u.a 4", "lead -"),
                         ("lead set main/u.a 4", "led set main/u.a 4"), ("| set main//u.a 4", "|  set main//u.a 4"),
                         ("file lib", "file Lib"), ("file lib", "file  lib"), ("file main import", "file lib import"), ("drop empty", "drop emptyy"), ("drop empty", "drop main"),
                         ("drop empty", "drop lib"), ("write empty ", "write empty"), ("write empty ", "write empty x"), ("write more ", "write more \\x"), ("write more ", "write more \\"),
                         ("write more ", "write import "), ("serials lib/l", "serials lib/k"), ("serials lib/l", "serials main/l"), ("document { u", "document u"), ("write more doc", "write more dok")]:
            self.assertIn(old, text)
            self.refused(text.replace(old, new, 1))
        for old, new in [("at 5", "at 6"), ("at 5", "at 0"), ("mark here 4", "mark here 6"), ("mark here 4", "mark hare 4"), ("next 3", "next 4")]:
            changed = text.replace(old, new, 1)
            if new == "next 4":
                # The item that comes would have another serial.
                self.refused(changed)
            else:
                self.assertEqual(History.read(changed).text(), changed)

    def test_lines_that_need_not_be(self):
        text = History(Project((PEOPLE,))).text()
        self.assertEqual(History.read(text).text(), text)
        for line in ("serials main/people #0 #1 next 2", "lead - | -", "lead set main/people.#0.name \"Ann\" | -", "write main " + PEOPLE[1], "drop other", "mark a 1", "", " ", "at 0", "note"):
            self.refused(text.replace("\nat 0", "\n" + line + "\nat 0"))
        self.refused(text.replace("\nat 0", "\nserials main/people #1 #0 next 2\nserials main/people #1 #0 next 2\nat 0"))
        self.refused(text.replace("\nat 0", "\nserials main/tasks #2 #1 #0 next 3\nserials main/people #1 #0 next 2\nat 0"))
        good = text.replace("\nat 0", "\nserials main/people #1 #0 next 2\nserials main/tasks #2 #1 #0 next 7\nat 0")
        self.assertEqual(serials(History.read(good).project), [(("main", "people"), (1, 0), 2), (("main", "tasks"), (2, 1, 0), 7)])

    def test_a_plan_that_costs_more_is_read(self):
        """read makes the plans again; what they cost is not told."""
        text = History(Project((THREE,))).text()
        dear = text.replace("\nat 0", "\nlead set main/u.a 5 | set main//u.a 5; set main//v.a 3\nat 1")
        history = History.read(dear)
        self.assertEqual(history[1][2], (("set", ("main", "", ("u", "a")), 5), ("set", ("main", "", ("v", "a")), 3)))
        self.assertEqual(History.read(dear.replace("lead", "merge"))[1][0], "merge")

    def test_plans_that_do_not_fulfil_the_wish(self):
        text = History(Project((PEOPLE,))).text()
        plan = "order main/tasks #0 #2 #1; set main/tasks/#2.owner \"Bob\""
        begin = text.replace("\nat 0", "\nlead " + show_edit(drag) + " | %s\nat 1")
        self.reads_back(History.read(begin % plan))
        for other in ("order main/tasks #1 #2 #0; set main/tasks/#2.owner \"Bob\"", "set main/tasks/#2.owner \"Bob\"", "order main/tasks #0 #2 #1", plan + "; set main/tasks/#2.title \"x\"",
                      "order main/tasks #0 #1 #2; set main/tasks/#2.owner \"Bob\"", "order main/tasks #0 #2; set main/tasks/#2.owner \"Bob\"", "-"):
            self.refused(begin % other)
        for serials_ in ("#2 #0 #1", "#2 #1 #0"):
            self.assertEqual(len(History.read(begin % plan.replace("#0 #2 #1", serials_))), 2)

    def test_longer_numbers_and_deeper_records(self):
        history = History(project("document { a: 1 }"))
        for digits in (1000, 1001):
            history.lead(sets(("main", ("a",)), -(10 ** (digits - 1))))
            if digits == 1000:
                self.reads_back(history)
            else:
                self.refused(history.text())

    def test_values_of_any_kind(self):
        for value in ANY + [b"at 0", ("at 0",), ["file main ", "at 0"], "at 0", "file main \nat", "file main ", "\nat 0", "file main\nat 0", "mark a 0\nat 0", "x" * 2000]:
            before = copy.deepcopy(value)
            self.refused(value)
            self.assertEqual(value, before)
        self.assertEqual(History.read("file main \nat 0").project, project(""))
        self.assertEqual(History.read(text="file main \nat 0"), History(project("")))


if __name__ == "__main__":
    unittest.main()
