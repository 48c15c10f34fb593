"""Points 2, 4 and 15 once more, over the whole program."""

import copy
import unittest

from helping import ANY, project
from sourceback.desk import Desk
from sourceback.edits import wish_of
from sourceback.errors import BadFiles, BadLine, NoFile, NoList, SourceError, StepError
from sourceback.history import History
from sourceback.kept import Kept
from sourceback.leading import lead, shows_led
from sourceback.numerals import number_in, numeral
from sourceback.plans import made
from sourceback.projects import Project
from sourceback.texts import read_edit, read_plan, show_edit, show_output, show_plan
from sourceback.values import output, value_of
from test_examples import PEOPLE, THREE

A, ALL = ("main", ("people", 0, "cards")), ("main", ("people",))
ROW = ("main", ("r",))


class Files(unittest.TestCase):
    def asks(self, found):
        """All that gives a file another text."""
        return [found.written, Kept(found).rewritten, History(found).write]

    def test_names_and_texts_of_any_value(self):
        found = Project((THREE,))
        for value in ANY + ["Main", "new", "x" * 13, "a1", b"main", "a\n"]:
            for pair in ((value, ""), ("main", value), (value, value)):
                if pair in (("main", ""), ("main", " ")) or isinstance(pair[1], str) and pair[0] == "main":
                    continue
                if pair[1] is None:
                    continue
                before = copy.deepcopy(pair)
                for ask in self.asks(found):
                    with self.assertRaises(BadFiles) as caught:
                        ask(*pair)
                    self.assertEqual(caught.exception.value, pair)
                self.assertEqual(pair, before)
        for text in ("\\", "\t", "\x7f", "\r"):
            for ask in self.asks(found):
                self.assertRaises(BadFiles, ask, "main", text)

    def test_a_seventh_file_and_the_last_one_taken_away(self):
        six = Project(tuple((name, "") for name in "abcdef"))
        for ask in self.asks(six):
            with self.assertRaises(BadFiles) as caught:
                ask("g", "")
            self.assertEqual(caught.exception.value, ("g", ""))
            ask("a", "document { }")
            ask("a", None)
        for ask in self.asks(Project((THREE,))):
            with self.assertRaises(BadFiles) as caught:
                ask("main", None)
            self.assertEqual(caught.exception.value, ("main", None))
            self.assertRaises(SourceError, ask, "more", "import x")

    def test_files_of_a_desk(self):
        desk = Desk()
        for name in "abcdef":
            desk.say(f"file {name} ")
        desk.say("open")
        with self.assertRaises(BadFiles) as caught:
            desk.say("file g x")
        self.assertEqual(caught.exception.value, ("g", "x"))
        for line in ("file G ", "file g", "file a \\", "file a \x00"):
            self.assertRaises(BadLine, desk.say, line)
        for word in ("show", "text"):
            with self.assertRaises(NoFile) as caught:
                desk.say(word + " g")
            self.assertEqual(caught.exception.value, "g")


class Items(unittest.TestCase):
    def test_without_fields(self):
        found = project("list l () [ ] template t { k: 1 } document { r: for x in l give t s: for x in l give t }")
        history = History(found)
        put = [("put", (file, path), 0, 0, (("k", 1),)) for file, path in (ROW, ("main", ("s",)))]
        led = history.lead(tuple(put))
        self.assertEqual((led.cost, led.plan, led.project["main"][:14]), (3, (("order", "main", "l", (0,)),), "list l () [ { "))
        history.lead((("put", ROW, 1, 1, (("k", 1),)), ("put", ("main", ("s",)), 1, 1, (("k", 1),))))
        history.lead((("carry", ROW, 1, ROW, 0), ("carry", ("main", ("s",)), 1, ("main", ("s",)), 0)))
        self.assertEqual(history.project.serials("main", "l"), (1, 0))
        history.lead((("take", ROW, 0), ("take", ("main", ("s",)), 0), ("take", ROW, 1), ("take", ("main", ("s",)), 1)))
        self.assertEqual((history.project.serials("main", "l"), history.project.next_serial("main", "l"), show_output(history.project, "main")),
                         ((), 2, "{ r: [ ] s: [ ] }"))
        self.assertEqual(History.read(history.text()), history)

    def test_an_item_that_was_left_out_is_not_put_again(self):
        found = lead(Project((PEOPLE,)), (("take", A, 2),)).project
        self.assertEqual((found.serials("main", "tasks"), found.next_serial("main", "tasks")), ((0, 1), 3))
        put = ("put", A, 1, 2, (("title", "c"),))
        for ask in (lambda: wish_of(found, (put,)), lambda: lead(found, (put,)), lambda: History(found).lead((put,)), lambda: shows_led(found, (put,), None)):
            with self.assertRaises(StepError) as caught:
                ask()
            self.assertEqual((caught.exception.index, caught.exception.word), (0, "serial"))
        led = lead(found, (put[:3] + (3,) + put[4:],))
        self.assertEqual((led.project.serials("main", "tasks"), led.project["main"].count("title:")), ((0, 3, 1), PEOPLE[1].count("title:")))
        # Nor is it by lines.
        desk = Desk()
        for line in ("file main " + PEOPLE[1], "open", "step take main/people.#0.cards #2", "lead"):
            desk.say(line)
        with self.assertRaises(StepError):
            desk.say("step " + show_edit((put,)))
        # What was taken back is there again.
        desk.say("undo")
        self.assertEqual(desk.say("step take main/people.#0.cards #2"), "1")

    def test_serials_of_lists_that_come_and_go(self):
        found = lead(Project((PEOPLE,)), (("take", ALL, 0),)).project
        gone = found.written("main", "document { }")
        self.assertRaises(NoList, gone.serials, "main", "people")
        back = gone.written("main", found["main"])
        self.assertEqual((back.serials("main", "people"), back.next_serial("main", "people")), ((0,), 1))
        self.assertEqual((found.serials("main", "people"), found.next_serial("main", "people")), ((1,), 2))


class Numbers(unittest.TestCase):
    def test_digits(self):
        for digits in (1, 63, 64, 65, 128, 200, 900):
            for number in (10 ** digits, 10 ** digits - 1, 10 ** digits + 7 * 10 ** (digits // 2)):
                self.assertEqual((numeral(number), numeral(-number), number_in(str(number))), (str(number), str(-number), number))
        self.assertEqual((numeral(0), number_in("0"), numeral(10 ** 5000)), ("0", 0, "1" + "0" * 5000))
        self.assertEqual(number_in("1" + "0" * 5000), 10 ** 5000)

    def test_what_was_returned_may_be_passed_in_again(self):
        """Numbers grow from edit to edit; thousands of digits are written, read, evaluated and led back like others."""
        names = [one + other for one in "abcdef" for other in "abcdefghij"][:50]
        text = "document { let z: 999 " + " ".join(f"let {name}: 999 * {before}" for before, name in zip(["z"] + names, names)) + f" top: 999 * {names[-1]} k: 1 }}"
        found = project(text)
        top = value_of(found, ("main", ("top",)))
        led = lead(found, (("set", ("main", ("k",)), top),))
        self.assertEqual((led.cost, led.plan), (2, (("set", ("main", "", ("k",)), top),)))
        found = led.project
        large = 7 * 10 ** 6000
        edit = (("set", ("main", ("k",)), large),)
        led = lead(found, edit)
        self.assertTrue(shows_led(found, edit, (led.plan, led.paper)))
        self.assertEqual(dict(output(Project(led.project.files), "main"))["k"], large)
        self.assertEqual(show_output(led.project, "main").split(" ")[-2], "7" + "0" * 6000)
        self.assertEqual((show_edit(edit), show_plan(led.plan)), ("set main/k 7" + "0" * 6000, "set main//k 7" + "0" * 6000))
        self.assertEqual(made(found, led.plan), led.project)


class Texts(unittest.TestCase):
    def test_of_all_that_is_led(self):
        found = Project((PEOPLE,))
        for edit in ((("take", A, 2),), (("put", A, 1, 3, (("title", "x; y | z"),)),), (("set", ("main", ("people", 0, "name")), "Cy"),)):
            led = lead(found, edit)
            self.assertEqual((read_edit(show_edit(edit)), read_plan(show_plan(led.plan))), (edit, led.plan))


if __name__ == "__main__":
    unittest.main()
