"""Point 15: a desk, beside a history."""

import copy
import random
import unittest

from helping import ANY, project
from sourceback.desk import Desk
from sourceback.edits import wish_of
from sourceback.errors import (
    BackError, BadFiles, BadLine, NoFile, NoMark, NoPlace, NotOpen, NothingToRedo, NothingToUndo, Refused, SourceError, StepError, TooLarge)
from sourceback.history import History
from sourceback.projects import Project
from sourceback.texts import show_edit, show_output, show_plan, show_spot
from sourceback.traces import sources
from sourceback.values import value_of
from test_examples import PEOPLE, SUMS, THREE, drag

A, B, ALL = ("main", ("people", 0, "cards")), ("main", ("people", 1, "cards")), ("main", ("people",))
DRAG = "step carry main/people.#0.cards #2 main/people.#1.cards 0"
AFTER = ["show main", "text main", "value main/u.a", "step set main/u.a 5", "edit", "forget", "lead", "plan", "why main/u.a", "worked",
         "undo", "redo", "mark here", "go here"]


def desk_of(*files):
    """A desk that is open, with some files."""
    desk = Desk()
    for name, text in files:
        desk.say("file " + name + " " + text.replace("\n", "\\n"))
    desk.say("open")
    return desk


class Refusals(unittest.TestCase):
    def refused(self, desk, line, error, **told):
        before = copy.deepcopy(line)
        with self.assertRaises(error) as caught:
            desk.say(line)
        if error is BadLine:
            self.assertIs(caught.exception.line, line)
        self.assertEqual({name: vars(caught.exception)[name] for name in told}, told)
        self.assertEqual(line, before)


class Desks(Refusals):
    def test_the_example(self):
        desk = Desk()
        self.assertEqual(
            [desk.say("file main document { let gap: 3 width: 2 * gap }"), desk.say("open"), desk.say("show main"), desk.say("step set main/width 8"), desk.say("lead"), desk.say("plan"), desk.say("text main"), desk.say("why main/width")],
            ['ok', 'ok', '{ width: 6 }', '1', '2', 'set main//gap 4', 'document { let gap: 4 width: 2 * gap }', 'main//gap'])

    def test_before_it_is_open(self):
        desk = Desk()
        for line in AFTER:
            self.refused(desk, line, NotOpen)
        self.refused(desk, "open", BadFiles, value=())
        self.assertEqual(desk.say(line="file main document {"), "ok")
        self.refused(desk, "open", SourceError, word="form", file="main", index=10)
        self.refused(desk, "show main", NotOpen)
        self.assertEqual(desk.say("file main document { a: 1 }"), "ok")
        self.assertEqual(desk.say("file lib "), "ok")
        for name in "abcd":
            desk.say("file " + name + " ")
        desk.say("file e ")
        self.refused(desk, "open", BadFiles)
        self.refused(desk, "edit", NotOpen)

    def test_files_in_the_place_of_others(self):
        desk = Desk()
        for text in ("document { a: 1 }", "document { a: 2\\n}"):
            self.assertEqual(desk.say("file main " + text), "ok")
        self.assertEqual(desk.say("open"), "ok")
        self.assertEqual([desk.say("text main"), desk.say("show main")], ["document { a: 2\\n}", "{ a: 2 }"])
        self.refused(desk, "open", BadLine)

    def test_a_file_that_is_open(self):
        desk = desk_of(THREE)
        desk.say("step set main/u.a 5")
        self.assertEqual(desk.say("file main document { u: 1 } # one\\n"), "ok")
        self.assertEqual([desk.say("edit"), desk.say("plan"), desk.say("worked"), desk.say("text main")], ["-", "-", "1", "document { u: 1 } # one\\n"])
        self.assertEqual([desk.say("file more "), desk.say("text more"), desk.say("undo"), desk.say("undo"), desk.say("show main")],
                         ["ok", "", "ok", "ok", "{ u: { a: 3 } v: { a: 3 } w: { a: 3 } }"])
        self.refused(desk, "text more", NoFile, value="more")

    def test_what_is_as_it_was_adds_no_state_but_the_edit_is_none(self):
        desk = desk_of(THREE)
        desk.say("step set main/u.a 5")
        self.assertEqual([desk.say("file main " + THREE[1]), desk.say("edit")], ["ok", "-"])
        self.refused(desk, "undo", NothingToUndo)

    def test_show_and_text(self):
        desk = desk_of(("main", PEOPLE[1]), ("more", 'template t { a: "x" }\n'))
        self.assertEqual(desk.say("show main"), show_output(Project((PEOPLE,)), "main"))
        self.assertEqual(desk.say("text more"), 'template t { a: "x" }\\n')
        self.refused(desk, "show more", NoFile, value="more")
        self.refused(desk, "show other", NoFile, value="other")
        self.refused(desk, "text other", NoFile, value="other")

    def test_values(self):
        desk = desk_of(("main", 'list l () [ { } ] template t { k: 1 } document { a: -3 b: "x y" let c: 2 d: new t r: for x in l give t s: new t { k: c } }'))
        self.assertEqual([desk.say("value main/" + path) for path in ("a", "b", "c", "d.k", "r.#0.k", "s.k")], ["-3", '"x y"', "2", "1", "1", "2"])
        self.assertEqual([desk.say("why main/" + path) for path in ("a", "c", "d.k", "r.#0.k", "s.k")], ["main//a", "main//c", "main/t/k", "main/t/k", "main//c"])
        for path, place in (("d", ("d",)), ("r", ("r",)), ("r.#1.k", ("r", 1, "k")), ("e", ("e",)), ("a.k", ("a", "k"))):
            for word in ("value", "why"):
                self.refused(desk, word + " main/" + path, NoPlace, value=("main", place))
                self.refused(desk, word + " other/" + path, NoPlace, value=("other", place))

    def test_whys(self):
        desk = desk_of(SUMS)
        self.assertEqual(desk.say("why main/width"), "main//gap main//rim")
        fixed = desk_of(("main", "list l (n: number) [ { n: 1 } ] template t { v: 0 } document { let k: 1 a: k r: for x in l give t { v: x.n } b: if k = 1 then 2 else 3 }"))
        self.assertEqual([fixed.say("why main/r.#0.v"), fixed.say("why main/b")], ["main/l/#0.n", "main//k"])
        many = project("template t { a: 1 } document { x: new t { a: 2 } y: if x.a = 2 then 7 else 8 z: 0 * q let q: 1 }")
        self.assertEqual(desk_of(("main", many["main"])).say("why main/y"), show_spot(sources(many, ("value", ("main", ("y",))))[0]))

    def test_a_choice_between_literals_has_what_it_compares(self):
        desk = desk_of(("main", "document { a: if b = 1 then 2 else 3 b: 1 }"))
        self.assertEqual(desk.say("why main/a"), "main//b")

    def test_steps(self):
        desk = desk_of(PEOPLE)
        self.assertEqual(desk.say("edit"), "-")
        self.assertEqual(desk.say(DRAG), "1")
        self.refused(desk, DRAG, StepError, index=1, word="serial")
        self.refused(desk, "step set main/people.#0.cards.#2.title \"x\"", StepError, index=1, word="place")
        self.assertEqual(desk.say('step set main/people.#1.cards.#2.title "x"'), "2")
        self.assertEqual(desk.say("edit"), DRAG[5:] + '; set main/people.#1.cards.#2.title "x"')
        self.refused(desk, "step take main/people #7", StepError, index=2, word="serial")
        self.refused(desk, "step put main/people 9 #2 { name: \"Cy\" cards: [ ] }", StepError, index=2, word="index")
        self.assertEqual(desk.say('step put main/people 2 #2 { name: "Cy" cards: [ #3 { title: "y" } ] }'), "3")
        self.assertEqual([desk.say("lead"), desk.say("edit"), desk.say("plan")], [
            str(3 + 2 + 3 + 3), "-", show_plan(History(Project((PEOPLE,))).lead((drag[0], ("set", ("main", ("people", 1, "cards", 2, "title")), "x"), (
                "put", ALL, 2, 2, (("name", "Cy"), ("cards", ((3, (("title", "y"),)),)))))).plan)])
        self.assertEqual(desk.say("value main/people.#2.cards.#3.title"), '"y"')

    def test_forget(self):
        desk = desk_of(THREE)
        desk.say("step set main/u.a 5")
        self.assertEqual([desk.say("forget"), desk.say("edit"), desk.say("forget"), desk.say("lead"), desk.say("plan")], ["ok", "-", "ok", "0", "-"])
        self.assertEqual([desk.say("step set main/u.a 6"), desk.say("lead"), desk.say("lead")], ["1", "3", "0"])

    def test_lead_that_is_refused_keeps_the_edit(self):
        desk = desk_of(SUMS)
        desk.say("step set main/width 10")
        self.refused(desk, "lead", Refused, word="spots")
        self.assertEqual(desk.say("edit"), "set main/width 10")
        self.assertEqual([desk.say("step set main/inner 4"), desk.say("lead"), desk.say("edit")], ["2", "4", "-"])

    def test_too_large(self):
        desk = desk_of(("main", "document { " + " ".join(f"{a}{b}: 1" for a in "abcdefgh" for b in "abcdefgh") + " }"))
        self.refused(desk, "lead", TooLarge, word="places")

    def test_worked(self):
        desk = desk_of(("main", "template t { a: 3 b: 2 * a } document { u: new t v: new t { a: 5 } }"))
        self.assertEqual(desk.say("worked"), "4")
        for line in ("step set main/u.a 4", "step set main/u.b 8", "lead"):
            desk.say(line)
        self.assertEqual([desk.say("worked"), desk.say("undo"), desk.say("worked"), desk.say("redo"), desk.say("worked")], ["2", "ok", "4", "ok", "2"])

    def test_marks(self):
        desk = desk_of(THREE)
        self.assertEqual(desk.say("mark one"), "ok")
        for value in (5, 6):
            desk.say(f"step set main/u.a {value}")
            desk.say("lead")
        self.refused(desk, "go two", NoMark, value="two")
        desk.say("step set main/v.a 7")
        self.refused(desk, "go two", NoMark, value="two")
        self.refused(desk, "redo", NothingToRedo)
        self.assertEqual(desk.say("edit"), "set main/v.a 7")
        self.assertEqual([desk.say("go one"), desk.say("edit"), desk.say("value main/u.a")], ["ok", "-", "3"])

    def test_lines_with_which_the_edit_is_none(self):
        for line in ("undo", "redo", "mark more", "go here", "forget", "lead", "file main " + THREE[1], "file more document { }"):
            desk = desk_of(THREE)
            for first in ("step set main/v.a 4", "lead", "mark here", "step set main/v.a 8", "lead", "undo", "step set main/u.a 5"):
                desk.say(first)
            self.assertEqual(desk.say("edit"), "set main/u.a 5")
            desk.say(line)
            self.assertEqual(desk.say("edit"), "-", line)

    def test_lines_that_leave_it(self):
        desk = desk_of(THREE)
        desk.say("step set main/u.a 5")
        for line, error in [("undo", NothingToUndo), ("redo", NothingToRedo), ("go here", NoMark), ("file main document {", SourceError), ("file x import y", SourceError),
                            ("open", BadLine), ("show x", NoFile), ("text x", NoFile), ("value main/x", NoPlace), ("why main/x", NoPlace), ("step set main/x 5", StepError),
                            ("step set main/u.a \"x\"", StepError), ("forget ", BadLine), ("step", BadLine)]:
            self.refused(desk, line, error)
            self.assertEqual(desk.say("edit"), "set main/u.a 5")
        for line in ("show main", "text main", "value main/u.a", "edit", "plan", "why main/u.a", "worked"):
            desk.say(line)
            self.assertEqual(desk.say("edit"), "set main/u.a 5")
        for name in "abcde":
            desk.say(f"file {name} ")
        desk.say("step set main/u.a 5")
        self.refused(desk, "file f ", BadFiles, value=("f", ""))
        self.assertEqual(desk.say("edit"), "set main/u.a 5")


class Lines(Refusals):
    def test_other_lines(self):
        for desk in (Desk(), desk_of(THREE)):
            for line in ["", " ", "nothing", "File main ", "file", "file ", "file main", "file Main ", "file new ", "file main \\", "file main \\x", "file main \t", "file main \n",
                         "file main a\nb", "file main a\x7f", "file  main x", " file main x", "file " + "x" * 13 + " ", "open ", " open", "open main", "show", "show ", "show main ", "show  main",
                         "show Main", "show main more", "text", "text ", "text new", "text main ", "value", "value ", "value main", "value main/", "value main/u.", "value main/.u", "value main//u.a",
                         "value main/u..a", "value main/#", "value main/#01.a", "value main/#-1", "value main/u.*", "value main/u.a ", "value Main/u.a", "value /u.a", "value main/new", "why main/",
                         "why main/u .a", "why", "step", "step ", "step -", "step set", "step set main/u.a", "step set main/u.a 5 ", "step set main/u.a  5", "step  set main/u.a 5",
                         "step set main/u.a 05", "step set main/u.a -0", "step set main/u.a +5", "step set main/u.a x", "step set main/u.a \"x", "step set main/u.a 5; set main/v.a 5",
                         "step set main/u.a \"" + "x" * 61 + "\"", "step put main/u 0 #0", "step put main/u 0 0 { }", "step put main/u 0 #0 {}", "step put main/u 0 #0 { a: { } }", "step take main/u 0",
                         "step take main/u #0 ", "step gone main//u.a", "step carry main/u #0 main/u", "step carry main/u #0 main/u #0", "edit ", "edit main", "forget now", "lead ", "lead -", "lead set main/u.a 5",
                         "plan ", "plan 1", "worked ", "undo ", "undo 1", "redo ", "mark", "mark ", "mark Here", "mark here ", "mark let", "go", "go ", "go new", "go 1", "quit", "mark here\n", "undo\n"]:
                self.refused(desk, line, BadLine)

    def test_values_of_every_sort(self):
        for desk in (Desk(), desk_of(THREE)):
            for value in ANY + [b"undo", ("undo",), ["undo"], "x" * 3000, "step put main/u 0 #0 " + "{ a: " * 50 + "1" + " }" * 50, "step set main/u.a " + "9" * 1001]:
                self.refused(desk, value, BadLine)

    def test_numbers_of_1000_digits_and_records_40_deep(self):
        desk = desk_of(THREE)
        self.assertEqual(desk.say("step set main/u.a " + "9" * 1000), "1")
        self.refused(desk, "step put main/u 0 #0 " + "{ a: " * 40 + "1" + " }" * 40, StepError, index=1, word="place")
        self.refused(desk, "step put main/u 0 #0 " + "{ a: " * 41 + "1" + " }" * 41, BadLine)


class ByChance(unittest.TestCase):
    """Lines by chance, beside a history and an edit in hand."""

    def answer(self, history, edit, line):
        """The answer of the history, and the edit in hand behind it."""
        word, _, rest = line.partition(" ")
        now = history.project
        if word == "step":
            more = edit + (STEPS[line],)
            wish_of(now, more)
            return str(len(more)), more
        if word == "lead":
            return str(history.lead(edit).cost), ()
        if word in ("undo", "redo"):
            getattr(history, word)()
            return "ok", ()
        if word in ("mark", "go"):
            getattr(history, word)(rest)
            return "ok", ()
        if word == "file":
            history.write(rest.partition(" ")[0], rest.partition(" ")[2].replace("\\n", "\n"))
            return "ok", ()
        if word == "forget":
            return "ok", ()
        step = history[history.place]
        return {"show": lambda: show_output(now, rest), "text": lambda: now[rest].replace("\n", "\\n"), "edit": lambda: show_edit(edit),
                "plan": lambda: show_plan(step[2]) if step and step[0] == "lead" else "-", "worked": lambda: str(len(history.kept.worked)),
                "value": lambda: self.literal(value_of(now, PLACES[rest])),
                "why": lambda: self.why(now, PLACES[rest])}[word](), edit

    def why(self, now, place):
        value_of(now, place)
        return " ".join(show_spot(spot) for spot in sources(now, ("value", place))) or "-"

    def literal(self, value):
        return '"%s"' % value if isinstance(value, str) else str(value)

    def test_lines(self):
        chance = random.Random(1)
        raised = 0
        for _ in range(12):
            desk, history, edit = desk_of(PEOPLE, THREE_LIB), History(Project((PEOPLE, THREE_LIB))), ()
            for _ in range(60):
                line = chance.choice(LINES)
                ends = []
                for ask in (lambda: (desk.say(line), None), lambda: self.answer(history, edit, line)):
                    try:
                        ends.append(ask())
                    except BackError as error:
                        ends.append((type(error), vars(error)))
                if isinstance(ends[1][0], str):
                    self.assertEqual(ends[0][0], ends[1][0], line)
                    edit = ends[1][1]
                else:
                    self.assertEqual(ends[0], ends[1], line)
                    raised += 1
                self.assertEqual(desk.say("edit"), show_edit(edit))
        self.assertGreater(raised, 50)


THREE_LIB = ("three", THREE[1])
STEPS = {
    DRAG: drag[0], "step take main/people #0": ("take", ALL, 0), "step take main/people.#1.cards #1": ("take", B, 1),
    'step set main/people.#0.name "Cy"': ("set", ("main", ("people", 0, "name")), "Cy"), "step set three/u.a 4": ("set", ("three", ("u", "a")), 4),
    "step set three/v.a -5": ("set", ("three", ("v", "a")), -5), "step carry main/people #1 main/people 0": ("carry", ALL, 1, ALL, 0),
    'step put main/people.#0.cards 0 #3 { title: "new; | x" }': ("put", A, 0, 3, (("title", "new; | x"),)),
}
PLACES = {"main/people.#0.name": ("main", ("people", 0, "name")), "three/u.a": ("three", ("u", "a")), "main/people.#1.cards.#2.title": ("main", ("people", 1, "cards", 2, "title")),
          "main/people": ("main", ("people",))}
LINES = list(STEPS) * 2 + ["lead"] * 6 + ["value " + place for place in PLACES] + ["why " + place for place in PLACES] + [
    "show main", "show three", "show no", "text main", "text three", "text no", "edit", "forget", "plan", "plan", "worked", "undo", "undo", "redo", "mark a", "mark b", "go a", "go b",
    "file three document { u: 1 }\\n", "file three " + THREE[1], "file no {", "file more document { }"]


if __name__ == "__main__":
    unittest.main()
