"""Points 2 and 3: the words sign and form."""

import itertools
import random
import unittest

from earley import bad_token
from helping import SIGNS, WORDS, fault, marked
from sourceback.files import tokens

FULL = (
    'import lib import more template box { let a: 2 b: a - 3 * c . d + 4 c: new edge { d: -3 } }'
    ' template wide = box { a: "x" b: { c: if a = -1 then - b else 3 + 2 * a } }'
    ' list goods ( p : number , t : text ) [ { p: 1 t: "one" } { t: "" p: -0 } ] list none ( ) [ ]'
    ' document { r: for g in goods where g . p = 3 give box { a: g . p } let h: new box'
    ' s: for g in goods where g . t = h . b give box q: for g in none give edge z: "" }'
)
ATOMS = WORDS + SIGNS + ("abc", "number", "abcdefghijklm", "3", "0", '"s"')


def form_fault(found):
    """The form error that a file of these tokens must have, with single blanks between."""
    text = " ".join(found)
    at = bad_token(found)
    if at is None:
        return None
    return ("form", "main", len(text) if at == len(found) else len(" ".join(found[:at] + [""])))


def found_fault(text):
    """The form or sign error of a file, or None if it has none of these."""
    found = fault(text)
    return found if found is not None and found[0] in ("sign", "form") else None


class Sign(unittest.TestCase):
    def check(self, text):
        text, at = marked(text)
        self.assertEqual(fault(text), ("sign", "main", at), text)

    def test_signs_that_are_none(self):
        for sign in "!$%&';<>?^_`|~/":
            self.check(f"document {{ a: @{sign} 3 }}")
            self.check(f"document {{ a: 3 }} @{sign}")
            self.check(f"@{sign}")
        self.assertEqual(fault("document { a: @ }"), ("sign", "main", 14))

    def test_capital_letters(self):
        self.check("@Document { a: 3 }")
        self.check("document { a@A: 3 }")
        self.check("document { @Z: 3 }")

    def test_leading_zeros(self):
        self.check("document { a: @01 }")
        self.check("document { a: @00 }")
        self.check("document { a: -@007 }")
        self.check("document { a: b + @0123 }")
        self.assertIsNone(fault("document { a: 0 b: 10 c: 100 }"))

    def test_strings_that_do_not_end(self):
        self.check('document { a: @" }')
        self.check('document { a: @"b }')
        self.check('document { a: "b" @" }')
        self.check('document { a: @"b\nc" }')
        self.check('document { a: @"')

    def test_long_strings(self):
        self.assertIsNone(fault(f'document {{ a: "{"x" * 60}" }}'))
        for length in (61, 62, 100, 1000):
            self.check(f'document {{ a: @"{"x" * length}" }}')

    def test_other_signs_stand_in_strings_and_remarks(self):
        self.assertIsNone(fault('document { a: "A01!%@#" } # A01!@"'))

    def test_the_first_sign_counts(self):
        self.check("document { a: @01 b: 02 A")


class Form(unittest.TestCase):
    def check(self, text):
        text, at = marked(text)
        self.assertEqual(fault(text), ("form", "main", at), text)

    def test_the_examples_of_the_document(self):
        self.assertEqual(fault("document { a: 3 + 4 }"), ("form", "main", 20))
        self.assertEqual(fault("document { a: - - 3 }"), ("form", "main", 16))
        self.assertEqual(fault("template t { a: 1 } template w = t { let a: 2 }"), ("form", "main", 37))

    def test_sums(self):
        self.check("document { a: 3 + 4 @b: 5 }")
        self.check("document { a: 3 * @4 }")
        self.check("document { a: b @* 3 }")
        self.check("document { a: 3 + @- b }")
        self.check('document { a: "x" @+ b }')
        self.check('document { a: b + @"x" }')
        self.check('document { a: - @"x" }')
        self.check("document { b: 1 a: if b = 1 then 3 - 4 @else b }")
        self.check("document { b: 1 a: b . @3 }")

    def test_what_stands_in_one_sort_of_body_alone(self):
        self.check("document { a: @{ } }")
        self.check("template t { } document { a: new t { b: @new t } }")
        self.check("template t { } document { let r: @for g in h give t }")
        self.check("template t { } document { a: new t { r: @for g in h give t } }")
        self.check("template t { } document { a: new t { @let b: 3 } }")

    def test_behind_the_end(self):
        self.check("document { } @}")
        self.check("document { } @document { }")
        self.check("document { } @template t { }")
        self.check("template t { } @import lib")

    def test_a_file_that_is_cut_off(self):
        found = list(tokens(FULL))
        self.assertEqual(found_fault(FULL), None)
        for at, token in found:
            text = FULL[:at]
            expected = bad_token([word for _, word in tokens(text)])
            if expected is not None:
                self.assertEqual(found_fault(text), ("form", "main", len(text)))
                self.assertEqual(found_fault(text + "  \n # end"), ("form", "main", len(text) + 9))

    def test_words_of_thirteen_letters(self):
        long = "abcdefghijklm"
        words = [token for _, token in tokens(FULL)]
        for number in range(len(words)):
            changed = words[:number] + [long] + words[number + 1:]
            at = len(" ".join(words[:number] + [""]))
            self.assertEqual(bad_token(changed), number)
            self.assertEqual(found_fault(" ".join(changed)), ("form", "main", at), changed)

    def test_an_empty_file_is_one(self):
        for text in ("", "\n", "# nothing"):
            self.assertIsNone(fault(text))


class Changed(unittest.TestCase):
    """Tokens left out, twice, exchanged, put in: the same as a second reading of the grammar."""

    def check(self, words):
        text = " ".join(words)
        self.assertEqual(found_fault(text), form_fault(words), text)

    def setUp(self):
        self.words = [token for _, token in tokens(FULL)]

    def test_the_whole_file_has_no_form_error(self):
        self.check(self.words)

    def test_left_out(self):
        for at in range(len(self.words)):
            self.check(self.words[:at] + self.words[at + 1:])

    def test_twice(self):
        for at in range(len(self.words)):
            self.check(self.words[:at] + [self.words[at]] + self.words[at:])

    def test_exchanged(self):
        for at in range(len(self.words) - 1):
            self.check(self.words[:at] + [self.words[at + 1], self.words[at]] + self.words[at + 2:])

    def test_put_in_or_replaced(self):
        chance = random.Random(1)
        for at in range(len(self.words) + 1):
            for atom in chance.sample(ATOMS, 6):
                self.check(self.words[:at] + [atom] + self.words[at:])
                self.check(self.words[:at] + [atom] + self.words[at + 1:])

    def test_rows_of_any_tokens(self):
        chance = random.Random(2)
        for _ in range(1500):
            at = chance.randrange(len(self.words))
            self.check(self.words[:at] + [chance.choice(ATOMS) for _ in range(chance.randrange(6))])


class Rows(unittest.TestCase):
    """Every row of one to three tokens as the value of a field."""

    def is_simple(self, row):
        """Whether a row of at most three tokens is a literal or a sum."""
        name, digits = "abc", ("3", "0")
        if row[0] == "-":
            return self.is_unsigned(row[1:]) and row[1:] != ['"s"']
        return self.is_unsigned(row)

    def is_unsigned(self, row):
        words = ["n" if token in ("abc", "number") else "d" if token in ("3", "0") else token for token in row]
        return "".join(words) in ("n", "d", '"s"', "n.n", "d*n", "n+n", "n-n", "n+d", "n-d", "d+n", "d-n")

    def is_value(self, row, declaring):
        if self.is_simple(row):
            return True
        if declaring:
            # A choice and a loop need more tokens than three.
            return row[0] == "new" and (row[1:] == ["abc"] or row[1:] == ["number"])
        return row == ["{", "}"]

    def test_rows(self):
        for length in (1, 2, 3):
            for row in itertools.product(ATOMS, repeat=length):
                text = " ".join(row)
                for declaring in (True, False):
                    start = "document { a: " if declaring else "template t = u { a: "
                    found = found_fault(start + text + " }")
                    right = self.is_value(list(row), declaring)
                    self.assertEqual(found is None, right, start + text)
                    if not right:
                        self.assertEqual(found[0], "form")

    def test_rows_that_are_longer(self):
        for value in ("new t { }", "new t { a: 3 }", "if a = 3 then b else 4", "for a in b give c",
                      "for a in b where c = d give e { }", "- a . b", "- 3 * a", "3 * a . b . c - 4"):
            self.assertIsNone(found_fault(f"document {{ a: {value} }}"))


class Together(unittest.TestCase):
    def test_the_least_index_of_sign_and_form(self):
        self.assertEqual(fault("document { a: 3 01 }"), ("sign", "main", 16))
        self.assertEqual(fault("document { a: : 01 }"), ("form", "main", 14))
        self.assertEqual(fault("document { a: 01 : }"), ("sign", "main", 14))
        self.assertEqual(fault("document A document"), ("sign", "main", 9))
        self.assertEqual(fault("document document A"), ("form", "main", 9))
        self.assertEqual(fault("document { } A"), ("sign", "main", 13))
        self.assertEqual(fault("document { } a A"), ("form", "main", 13))

    def test_a_sign_at_each_place(self):
        for at, _ in tokens(FULL):
            self.assertEqual(fault(FULL[:at] + "A" + FULL[at:]), ("sign", "main", at))


if __name__ == "__main__":
    unittest.main()
