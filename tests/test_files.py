"""Point 2: names and tokens."""

import copy
import itertools
import unittest

from helping import ANY, SIGNS, WORDS
from sourceback.files import is_name, tokens

LETTERS = "abcdefghijklmnopqrstuvwxyz"


class Names(unittest.TestCase):
    def test_words_of_one_to_twelve_letters(self):
        for length in range(1, 13):
            self.assertIs(is_name("abcdefghijkl"[:length]), True)
            self.assertIs(is_name("z" * length), True)
        for letter in LETTERS:
            self.assertIs(is_name(letter), True)

    def test_too_short_or_too_long(self):
        for text in ("", "abcdefghijklm", "a" * 13, "a" * 100):
            self.assertIs(is_name(text), False)

    def test_the_words_are_no_names(self):
        for word in WORDS:
            self.assertIs(is_name(word), False)

    def test_words_with_a_letter_more_or_fewer_or_otherwise(self):
        for word in WORDS:
            near = {word + letter for letter in LETTERS} | {letter + word for letter in LETTERS}
            near |= {word[:at] + word[at + 1:] for at in range(len(word))}
            near |= {word[:at] + letter + word[at + 1:] for at in range(len(word)) for letter in LETTERS}
            for text in near:
                self.assertIs(is_name(text), text not in WORDS and text != "", text)

    def test_number_and_text_are_names(self):
        for word in ("number", "text"):
            self.assertIs(is_name(word), True)

    def test_other_signs_at_any_place(self):
        others = [chr(code) for code in range(256) if chr(code) not in LETTERS] + ["\u0430", "\u212a"]
        for other in others:
            for text in ("abc", "abcdefghijk"):
                for at in range(len(text) + 1):
                    self.assertIs(is_name(text[:at] + other + text[at:]), False)
            self.assertIs(is_name(other), False)

    def test_any_value(self):
        for value in ANY:
            self.assertIs(is_name(value), False)
        for value in (("a",), ["a"], {"a": "a"}, (("a",),), b"a"):
            self.assertIs(is_name(value), False)

    def test_the_value_does_not_change(self):
        for value in ANY:
            before = copy.deepcopy(value)
            is_name(value)
            self.assertEqual(value, before)

    def test_by_name(self):
        self.assertIs(is_name(value="box"), True)


class Tokens(unittest.TestCase):
    def words_of(self, text):
        return [token for _, token in tokens(text)]

    def test_indexes_are_those_of_the_text(self):
        text = 'ab: -12 # no tokens\n"x # y"{}'
        found = list(tokens(text))
        self.assertEqual(found, [(0, "ab"), (2, ":"), (4, "-"), (5, "12"), (20, '"x # y"'), (27, "{"), (28, "}")])

    def test_texts_without_tokens(self):
        for text in ("", " ", "\n", "   \n \n", "#", "# a", "#\n", " # a: 3 \n # {\n"):
            self.assertEqual(list(tokens(text)), [])

    def test_a_remark_goes_to_the_end_of_its_line(self):
        self.assertEqual(list(tokens("a#b c\nd # e")), [(0, "a"), (6, "d")])
        self.assertEqual(list(tokens("a##\n#b\n\nc#")), [(0, "a"), (8, "c")])

    def test_words_that_are_no_names_and_long_ones(self):
        for word in WORDS + ("abcdefghijklm", "z" * 200):
            self.assertEqual(list(tokens(word)), [(0, word)])

    def test_digits(self):
        for text in ("0", "7", "10", "100", "987654321"):
            self.assertEqual(list(tokens(text)), [(0, text)])

    def test_strings_of_all_lengths_and_signs(self):
        inner = [chr(code) for code in range(32, 127) if chr(code) not in '"\\']
        for length in range(61):
            text = '"' + "".join(inner[(length + k) % len(inner)] for k in range(length)) + '"'
            self.assertEqual(list(tokens(text)), [(0, text)])
        for sign in inner:
            self.assertEqual(list(tokens(f'"{sign}"')), [(0, f'"{sign}"')])

    def test_all_signs(self):
        self.assertEqual(self.words_of("".join(SIGNS)), list(SIGNS))
        self.assertEqual(self.words_of(" ".join(SIGNS)), list(SIGNS))

    def test_with_something_and_with_nothing_between(self):
        kinds = ["ab", "new", "30", "0", '"x y"', '""'] + list(SIGNS)
        for row in itertools.product(kinds, repeat=3):
            for between in (" ", "\n", "# r\n", " \n #\n"):
                text = between.join(row)
                self.assertEqual(self.words_of(text), list(row), text)
            glued = any(self.glues(a, b) for a, b in zip(row, row[1:]))
            if not glued:
                self.assertEqual(self.words_of("".join(row)), list(row))

    def glues(self, first, second):
        """Whether two tokens would be another one, or none, with nothing between."""
        return (first.isalpha() and second.isalpha()) or (first.isdigit() and second.isdigit())

    def test_a_token_is_as_long_as_can_be(self):
        self.assertEqual(list(tokens("3b")), [(0, "3"), (1, "b")])
        self.assertEqual(list(tokens("b3")), [(0, "b"), (1, "3")])
        self.assertEqual(list(tokens("letx")), [(0, "letx")])
        self.assertEqual(list(tokens("10a0")), [(0, "10"), (2, "a"), (3, "0")])

    def test_listed_twice_and_broken_off(self):
        text = 'document { a: "b" } # c'
        first = list(tokens(text))
        for _, token in tokens(text):
            break
        self.assertEqual(token, "document")
        self.assertEqual(list(tokens(text)), first)
        one, other = tokens(text=text), tokens(text=text)
        self.assertEqual([next(one), next(other), next(one)], [first[0], first[0], first[1]])

    def test_it_is_a_generator(self):
        self.assertTrue(hasattr(tokens("a"), "send"))


if __name__ == "__main__":
    unittest.main()
