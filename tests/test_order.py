"""Points 3 and 4: several errors at once."""

import itertools
import random
import unittest

from helping import marked
from sourceback.errors import SourceError
from sourceback.projects import Project

# Each file has one error, at its @, or none.
FILES = {
    "sign": "document { a: @01 }",
    "form": "document { a: 3 + 4 @}",
    "import": "import @nofile document { a: 1 }",
    "twice": "document { b: 1 a: 1 @a: 2 }",
    "name": "document { a: new @nobody }",
    "ring": "template u { } template @t { a: new t }",
    "field": "document { a: 1 b: 2 * @c }",
    "kind": 'document { n: 1 a: if n = @"" then 1 else 2 }',
    "circle": " @document { a: a }",
    "": "document { a: 1 }@",
}
# Parts of one file, each with one error, at its @; # stands for a letter of its own.
PARTS = {
    "twice": "template tw# { a: 1 @a: 2 } ",
    "name": "template na# { a: new @nobody } ",
    "ring": "template @ri# { a: new ri# } ",
    "field": "template fi# { a: 1 b: @c } ",
    "kind": 'template ki# { a: "" b: @1 + a } ',
    "": "template no# { a: 1 } ",
}
PHASES = {"sign": 1, "form": 1, "import": 2, "twice": 3, "name": 4, "ring": 5, "field": 6, "kind": 7, "circle": 8}


def first_fault(files):
    """The error of these files, (word, file, index), or None."""
    try:
        Project(files)
    except SourceError as error:
        return (error.word, error.file, error.index)
    return None


def files_of(words):
    """Files a, b, .. with these errors, and the error that counts."""
    files, faults = [], []
    for name, word in zip("abcdef", words):
        text, at = marked(FILES[word])
        files.append((name, text))
        if word:
            faults.append((PHASES[word], name, at, word))
    if not faults:
        return files, None
    _, name, at, word = min(faults)
    return files, (word, name, at)


class Order(unittest.TestCase):
    def check_files(self, words):
        files, expected = files_of(words)
        self.assertEqual(first_fault(tuple(files)), expected, words)
        self.assertEqual(first_fault(tuple(reversed(files))), expected, words)
        return files, expected

    def test_two_and_three_files(self):
        for length in (1, 2, 3):
            for words in itertools.product(FILES, repeat=length):
                self.check_files(words)

    def test_six_files(self):
        chance = random.Random(3)
        for _ in range(200):
            self.check_files([chance.choice(list(FILES)) for _ in range(6)])

    def test_several_errors_in_one_file(self):
        chance = random.Random(4)
        for _ in range(400):
            words = [chance.choice(list(PARTS)) for _ in range(chance.randrange(1, 7))]
            text, faults = "", []
            for letter, word in zip("abcdefg", words):
                part, at = PARTS[word].replace("#", letter), 0
                if word:
                    part, at = marked(part)
                    faults.append((PHASES[word], len(text) + at, word))
                text += part
            if chance.random() < 0.5:
                faults.append((8, len(text), "circle"))
                text += "document { a: a }"
            expected = None
            if faults:
                _, at, word = min(faults)
                expected = (word, "main", at)
            self.assertEqual(first_fault((("main", text),)), expected, text)

    def test_the_first_index_of_one_phase(self):
        self.assertEqual(first_fault((("m", "document { a: b c: d }"),)), ("field", "m", 14))
        self.assertEqual(first_fault((("m", "document { c: new t { x: y } } "),)), ("name", "m", 18))
        self.assertEqual(first_fault((("m", "template t { b: 1 } document { c: new t { x: y } }"),)), ("field", "m", 42))
        self.assertEqual(first_fault((("m", "import b import a import m"),)), ("import", "m", 7))

    def test_written_raises_the_same_as_a_project_of_the_new_files(self):
        right = tuple((name, "document { a: 1 }") for name in "abcde")
        project = Project(right)
        for word in FILES:
            for name in "abcdef":
                text = marked(FILES[word])[0]
                files = tuple(file for file in right if file[0] != name) + ((name, text),)
                expected = first_fault(files)
                try:
                    project.written(name, text)
                except SourceError as error:
                    self.assertEqual((error.word, error.file, error.index), expected)
                else:
                    self.assertIsNone(expected)
                    self.assertEqual(word, "")

    def test_written_can_break_another_file(self):
        project = Project((("lib", "template t { a: 1 }"), ("main", "import lib document { b: new t }")))
        for text, expected in ((None, ("import", "main", 7)), ("", ("name", "main", 29)),
                               ("template t { a: t }", ("field", "lib", 16)),
                               ("template t { a: a }", ("circle", "main", 11))):
            with self.assertRaises(SourceError) as caught:
                project.written("lib", text)
            error = caught.exception
            self.assertEqual((error.word, error.file, error.index), expected)
        self.assertEqual(project["lib"], "template t { a: 1 }")


if __name__ == "__main__":
    unittest.main()
