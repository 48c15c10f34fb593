"""Point 15: texts of edits, plans and outputs."""

import copy
import random
import unittest

from helping import ANY, project
from planning import random_plan
from randomly import sound
from sourceback.errors import BadEdit, BadText, NoFile
from sourceback.projects import Project
from sourceback.texts import read_edit, read_plan, show_edit, show_output, show_plan
from sourceback.values import output
from test_examples import PEOPLE, drag

A = ("main", ("people", 0, "cards"))
SIGNS = "".join(chr(code) for code in range(32, 127) if chr(code) not in '"\\')
STRINGS = ["", " ", "; ", " | ", "-", "set main/a 5; take main/b #1", SIGNS[:60], SIGNS[35:], "{ a: [ #0 { } ] }", "x" * 60, "#", "it's"]

EDITS = [
    ((), "-"),
    ((("set", ("main", ("a",)), 5),), "set main/a 5"),
    ((("set", ("main", ("a",)), -5),), "set main/a -5"),
    ((("set", ("main", ("a",)), 0),), "set main/a 0"),
    ((("set", ("lib", ("people", 10, "cards", 0, "title")), "x; y"),), 'set lib/people.#10.cards.#0.title "x; y"'),
    ((("take", A, 12),), "take main/people.#0.cards #12"),
    ((("carry", A, 2, ("main", ("b",)), 13),), "carry main/people.#0.cards #2 main/b 13"),
    ((("put", A, 0, 3, ()),), "put main/people.#0.cards 0 #3 { }"),
    ((("put", A, 1, 3, (("title", "b"),)),), 'put main/people.#0.cards 1 #3 { title: "b" }'),
    ((("put", A, 1, 3, (("n", -1), ("r", ()), ("s", (("t", 2),)), ("u", ((0, ()), (5, (("v", ()),)))))),),
     "put main/people.#0.cards 1 #3 { n: -1 r: [ ] s: { t: 2 } u: [ #0 { } #5 { v: [ ] } ] }"),
    ((("take", A, 0), ("set", ("main", ("number",)), 1), ("take", A, 1)),
     "take main/people.#0.cards #0; set main/number 1; take main/people.#0.cards #1"),
    ((("set", ("main", (0, "a", 1, 2)), 1),), "set main/#0.a.#1.#2 1"),
]
PLANS = [
    ((), "-"),
    ((("gone", ("main", "", ("u", "a"))),), "gone main//u.a"),
    ((("gone", ("main", "w", ("r", "*", "a"))),), "gone main/w/r.*.a"),
    ((("set", ("main", "tasks", (2, "owner")), "B | -"),), 'set main/tasks/#2.owner "B | -"'),
    ((("order", "main", "tasks", ()),), "order main/tasks -"),
    ((("order", "main", "tasks", (3,)),), "order main/tasks #3"),
    ((("order", "main", "tasks", (3, 0, 0, 12)), ("set", ("main", "", ("a",)), -7)), "order main/tasks #3 #0 #0 #12; set main//a -7"),
    ((("gone", ("a", "b", ("c",))), ("gone", ("a", "b", ("d",))), ("order", "a", "b", (1,)), ("set", ("a", "", ("*",)), 1), ("set", ("a", "b", (4,)), 1)),
     "gone a/b/c; gone a/b/d; order a/b #1; set a//* 1; set a/b/#4 1"),
]


class Examples(unittest.TestCase):
    def test_of_the_document(self):
        self.assertEqual([show_edit(drag), read_plan("gone main/w/a; set main//u.a -5")],
                         ["carry main/people.#0.cards #2 main/people.#1.cards 0", (("gone", ("main", "w", ("a",))), ("set", ("main", "", ("u", "a")), -5))])

    def test_all_forms(self):
        for edit, text in EDITS:
            self.assertEqual((show_edit(edit), read_edit(text)), (text, edit))
        for plan, text in PLANS:
            self.assertEqual((show_plan(plan), read_plan(text)), (text, plan))

    def test_strings(self):
        for string in STRINGS:
            edit = (("set", ("main", ("a",)), string), ("put", A, 0, 0, (("a", string), ("r", ((1, (("b", string),)),)))))
            self.assertEqual(show_edit(edit), f'set main/a "{string}"; put main/people.#0.cards 0 #0 {{ a: "{string}" r: [ #1 {{ b: "{string}" }} ] }}')
            self.assertEqual(read_edit(show_edit(edit)), edit)
            plan = (("set", ("main", "", ("a",)), string), ("set", ("main", "", ("b",)), string))
            self.assertEqual(show_plan(plan), f'set main//a "{string}"; set main//b "{string}"')
            self.assertEqual(read_plan(show_plan(plan)), plan)


class Outputs(unittest.TestCase):
    def test_outputs(self):
        text = ('list l (n: number) [ { n: 1 } { n: -2 } ] list none () [ ] template e { let v: 1 } template t { s: "a" } template w { n: 0 in_: 1 }'
                .replace("in_", "m") + ' document { a: -3 b: "x; y" let h: 1 c: new e d: new t f: for g in l give w { n: g.n } '
                'k: for g in l give e i: for g in none give t j: for g in l where g.n = 1 give t }')
        self.assertEqual(show_output(project(text), "main"),
                         '{ a: -3 b: "x; y" c: [ ] d: { s: "a" } f: [ { n: 1 m: 1 } { n: -2 m: 1 } ] k: [ { } { } ] i: [ ] j: [ { s: "a" } ] }')
        self.assertEqual(show_output(project("document { let a: 1 }"), "main"), "{ }")
        self.assertEqual(show_output(project(PEOPLE[1]), "main"),
                         '{ people: [ { name: "Ann" cards: [ { title: "a" } { title: "c" } ] } { name: "Bob" cards: [ { title: "b" } ] } ] }')

    def test_by_chance(self):
        for _, found, _ in sound().worlds[:200]:
            for file in found.documents:
                self.assertEqual(show_output(found, file), self.text(output(found, file)))

    def text(self, value):
        """A second way; what the output is made of tells records from rows, but for those that are empty."""
        if isinstance(value, int):
            return str(value)
        if isinstance(value, str):
            return '"' + value + '"'
        if value == ():
            return "{ }"
        if isinstance(value[0], tuple) and len(value[0]) == 2 and isinstance(value[0][0], str):
            return "{ " + " ".join(name + ": " + ("[ ]" if part == () else self.text(part)) for name, part in value) + " }"
        return "[ " + " ".join(self.text(part) for part in value) + " ]"

    def test_no_file(self):
        found = project(main="document { a: 1 }", lib="template t { }")
        for value in ANY + ["lib", "nofile", "Main"]:
            before = copy.deepcopy(value)
            with self.assertRaises(NoFile) as caught:
                show_output(found, value)
            self.assertIs(caught.exception.value, value)
            self.assertEqual(value, before)


class Numbers(unittest.TestCase):
    def test_digits(self):
        for digits in ("1" * 9, "9" * 999, "1" + "0" * 999):
            number = int(digits)
            self.assertEqual(read_edit(f"set main/a {digits}"), (("set", ("main", ("a",)), number),))
            self.assertEqual(read_edit(f"set main/a -{digits}"), (("set", ("main", ("a",)), -number),))
            self.assertEqual(read_edit(f"take main/a.#{digits} #{digits}"), (("take", ("main", ("a", number)), number),))
            self.assertEqual(read_edit(f"put main/a {digits} #{digits} {{ a: [ #{digits} {{ }} ] }}"),
                             (("put", ("main", ("a",)), number, number, (("a", ((number, ()),)),)),))
            self.assertEqual(read_plan(f"order main/a #{digits}; set main/a/#{digits} -{digits}"),
                             (("order", "main", "a", (number,)), ("set", ("main", "a", (number,)), -number)))
        for digits in ("1" * 1001, "1" * 5000, "01", "00", "007", "", "+1", "1_0", "\u0661", "\u00b2", "1.5", "0x1", "-0", "-01", "--1", "- 1"):
            for text in (f"set main/a {digits}", f"set main/a -{digits}"):
                self.no_edit(text)
            for text in (f"take main/a #{digits}", f"take main/a.#{digits} #0", f"put main/a {digits} #0 {{ }}", f"put main/a 0 #{digits} {{ }}",
                         f"put main/a 0 #0 {{ a: [ #{digits} {{ }} ] }}", f"put main/a 0 #0 {{ a: {digits} }}", f"carry main/a #0 main/b {digits}"):
                self.no_edit(text)
            for text in (f"order main/a #{digits}", f"set main//a {digits}", f"gone main/a/#{digits}", f"order main/a #0 #{digits}"):
                self.no_plan(text)

    def no_edit(self, text):
        with self.assertRaises(BadText) as caught:
            read_edit(text)
        self.assertIs(caught.exception.value, text)

    def no_plan(self, text):
        with self.assertRaises(BadText) as caught:
            read_plan(text)
        self.assertIs(caught.exception.value, text)

    def test_zero(self):
        self.assertEqual(read_edit("set main/a 0; take main/a.#0 #0"), (("set", ("main", ("a",)), 0), ("take", ("main", ("a", 0)), 0)))
        self.no_edit("set main/a -0")
        self.no_plan("set main//a -0")
        self.no_edit("put main/a 0 #0 { a: -0 }")

    def test_depths(self):
        def records(depth, opening, closing):
            return "put main/a 0 #0 " + opening * (depth - 1) + "{ a: 1 }" + closing * (depth - 1)
        for opening, closing in (("{ a: ", " }"), ("{ b: 1 a: ", " c: [ ] }"), ("{ a: [ #1 ", " ] }")):
            for depth in (1, 2, 39, 40):
                edit = read_edit(records(depth, opening, closing))
                self.assertEqual(show_edit(edit), records(depth, opening, closing))
            for depth in (41, 42, 100, 1200):
                self.no_edit(records(depth, opening, closing))
        # Empty rows or an empty record within the deepest one are no record more.
        text = "put main/a 0 #0 " + "{ a: " * 39 + "{ a: [ ] }" + " }" * 39
        self.assertEqual(show_edit(read_edit(text)), text)
        self.no_edit("put main/a 0 #0 " + "{ a: " * 39 + "{ a: [ #0 { } ] }" + " }" * 39)
        self.no_edit("put main/a 0 #0 " + "{ a: " * 1200)
        self.no_edit("put main/a 0 #0 " + "{ a: [ #0 " * 1200)


class Refused(unittest.TestCase):
    def ends(self, read, value):
        before = copy.deepcopy(value)
        with self.assertRaises(BadText) as caught:
            read(value)
        self.assertIs(caught.exception.value, value)
        self.assertEqual(value, before)

    def test_values_of_every_sort(self):
        for read in (read_edit, read_plan):
            for value in ANY + [b"-", ("-",), ["-"], " -", "- ", "-;", "-; -", "--", ";", "; ", "\n", "-\n"]:
                self.ends(read, value)

    def test_edits_that_are_not_so_written(self):
        for text in ["set main/a", "set main/a ", "set main/a 5 ", " set main/a 5", "set  main/a 5", "set main/a  5", "set main/a 5;", "set main/a 5; ",
                     "set main/a 5;take main/a #0", "set main/a 5 ; take main/a #0", "set main/a 5; -", "-; set main/a 5", "set main/a 5; set", "Set main/a 5",
                     "gone main//a", "set main//a 5", "set main/ 5", "set /a 5", "set main 5", "set a 5", "set main/a. 5", "set main/.a 5", "set main/a..b 5",
                     "set main/a.* 5", "set main/A 5", "set main/new 5", "set new/a 5", "set main/a.where 5", "set main/abcdefghijklm 5", "set abcdefghijklm/a 5",
                     "set main/a.1 5", "set main/a.# 5", "set main/a.#-1 5", "set main/a #5", 'set main/a "', 'set main/a "a', 'set main/a "a"b', "set main/a 'a'",
                     'set main/a "a\\"', 'set main/a "\n"', 'set main/a "' + "x" * 61 + '"', 'set main/a "\u00e4"', "set main/a x", "set main/a { }", "set main/a [ ]",
                     "take main/a", "take main/a 0", "take main/a #", "take main/a #0 ", "take main/a #-1", "take main/a #0 #1", "put main/a 0 #0", "put main/a 0 0 { }",
                     "put main/a #0 0 { }", "put main/a 0 #0 {}", "put main/a 0 #0 {  }", "put main/a 0 #0 { }}", "put main/a 0 #0 { a }", "put main/a 0 #0 { a:1 }",
                     "put main/a 0 #0 { a : 1 }", "put main/a 0 #0 { a: 1}", "put main/a 0 #0 {a: 1 }", "put main/a 0 #0 { a: 1  b: 2 }", "put main/a 0 #0 { a: 1, b: 2 }",
                     "put main/a 0 #0 { a: { } }", "put main/a 0 #0 { a: {} }", "put main/a 0 #0 { a: [] }", "put main/a 0 #0 { a: [  ] }", "put main/a 0 #0 [ ]",
                     "put main/a 0 #0 { a: [ { } ] }", "put main/a 0 #0 { a: [ #0 [ ] ] }", "put main/a 0 #0 { a: [ #0 1 ] }", "put main/a 0 #0 { a: [ 0 { } ] }",
                     "put main/a 0 #0 { a: [ #0 { }#1 { } ] }", "put main/a 0 #0 { A: 1 }", "put main/a 0 #0 { new: 1 }", "put main/a 0 #0 { #0: 1 }", "put main/a 0 #0 { a: 1",
                     "put main/a -1 #0 { }", "carry main/a #0 main/b", "carry main/a #0 main/b #0", "carry main/a 0 main/b 0", "carry main/a #0 main/b -1",
                     "carry main/a #0 0 main/b", "set\tmain/a 5", "set main/a 5\n", "set main/a\n5", "set main/a 5;\ntake main/a #0", "set main/a 5 # x"]:
            self.ends(read_edit, text)

    def test_plans_that_are_not_so_written(self):
        for text in ["set main/a 5", "set main//a", "set main//a 5 ", "set main//a  5", "set main// 5", "set main/ 5", "set //a 5", "set main/new/a 5", "set main/A/a 5",
                     "set main/t/a/b 5", "set main/t/.a 5", "set main/t/a.** 5", "set main/t/a.*b 5", "set main//a 5;", "set main//a 5;set main//b 5", "set main//a -",
                     "set main//a { }", "gone main/a", "gone main//a 5", "gone main//a ", "gone main//", "order main/a", "order main/a ", "order main//a #0", "order main/a 0",
                     "order main/a #0  #1", "order main/a #0 ", "order main/a #0 1", "order main/a - #0", "order main/a #0 -", "order main/a.b #0", "order main #0",
                     "order main/a #0,#1", "take main//a #0", "Gone main//a", "set main//a 5; -", "-; gone main//a"]:
            self.ends(read_plan, text)

    def test_plans_in_another_order_or_of_one_spot_twice(self):
        parts = ["gone a//x", "gone a/t/x", "order a/l #0", "order a/m -", "set a//w 5", "set a//y 5", "set b//x 5"]
        self.assertEqual(len(read_plan("; ".join(parts))), 7)
        for at in range(1, len(parts)):
            self.ends(read_plan, "; ".join(parts[:at - 1] + [parts[at], parts[at - 1]] + parts[at + 1:]))
            self.ends(read_plan, "; ".join(parts[:at] + [parts[at]] + parts[at:]))
        for text in ["set a//x 5; set a//x 6", "set a//x 6; set a//x 5", 'set a//x 5; set a//x "y"', "gone a//x; set a//x 5", "order a/l #0; order a/l #1",
                     "order a/l #0 #1; order a/l #0", "gone a//x.y; gone a//x"]:
            self.ends(read_plan, text)
        self.assertEqual(len(read_plan("gone a//x; gone a//x.y; gone a/x/y; order a/x #0; set a//b 1")), 5)
        # A name and a serial in one place have no order.
        self.ends(read_plan, "gone a/t/x; gone a/t/#0")
        self.ends(read_plan, "gone a/t/#0; gone a/t/x")
        self.assertEqual(len(read_plan("gone a/t/#0.x; gone a/t/#0.y; gone a/t/#1; gone a/t/#10; gone a/u/*")), 5)
        self.ends(read_plan, "gone a/t/#10; gone a/t/#9")

    def test_a_sign_otherwise_more_or_fewer(self):
        """What is read of a text that is written otherwise is written just so."""
        chance = random.Random(1)
        accepted = 0
        for read, show, table in ((read_edit, show_edit, EDITS), (read_plan, show_plan, PLANS)):
            for value, text in table:
                words = text.split(" ")
                for _ in range(200):
                    at, what = chance.randrange(len(text) + 1), chance.random()
                    sign = chance.choice('ab5 0#.;/-"{}[]:*\n|A\\')
                    other = text[:at] + sign + text[at:] if what < 0.4 else text[:at] + text[at + 1:] if what < 0.6 else text[:at] + sign + text[at + 1:]
                    if what > 0.9:
                        mixed = list(words)
                        one, two = chance.randrange(len(words)), chance.randrange(len(words))
                        mixed[one], mixed[two] = mixed[two], mixed[one]
                        other = " ".join(mixed)
                    elif what > 0.85:
                        one = chance.randrange(len(words))
                        other = " ".join(words[:one] + [words[one]] + words[one:])
                    try:
                        found = read(other)
                    except BadText as error:
                        self.assertIs(error.value, other)
                        self.assertNotEqual(other, text)
                    else:
                        self.assertEqual(show(found), other)
                        self.assertEqual(found == value, other == text)
                        accepted += other != text
        self.assertGreater(accepted, 200)

    def test_show_edit_of_what_is_no_edit(self):
        for value in [value for value in ANY if value != ()] + [list(drag), drag[0], (drag[0][:4],)]:
            with self.assertRaises(BadEdit) as caught:
                show_edit(value)
            self.assertIs(caught.exception.value, value)


class Back(unittest.TestCase):
    def test_plans_by_chance(self):
        chance = random.Random(2)
        for world, _, _ in sound().worlds[:300]:
            plan = random_plan(world, chance, 0.4)
            self.assertEqual(read_plan(show_plan(plan)), plan)

    def test_by_name(self):
        self.assertEqual(read_edit(text=show_edit(edit=drag)), drag)
        self.assertEqual(read_plan(text=show_plan(plan=())), ())
        self.assertEqual(show_output(project=Project((("main", "document { a: 1 }"),)), file="main"), "{ a: 1 }")


if __name__ == "__main__":
    unittest.main()
