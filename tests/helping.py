"""What several tests use."""

import copy
import unittest

from sourceback.errors import SourceError
from sourceback.projects import Project

WORDS = ("import", "template", "list", "document", "let", "new", "for",
         "in", "where", "give", "if", "then", "else")
SIGNS = tuple("{}[]():.,=+-*")


def deep(depth, kind):
    """A value nested so deep."""
    value = "a"
    for _ in range(depth):
        value = [value] if kind == "list" else (value,) if kind == "tuple" else {"a": value}
    return value


# Values that are nothing that this package knows, whatever a function asks for.
ANY = [
    None, True, False, 0, 1, -1, 7, 10 ** 8, "", " ", "a b", "A", "new", "*", "#0",
    (), [], {}, ("main",), ["main"], {"main": 1}, ("main", ()), ["main", ("a",)], ("main", ["a"]),
    ("main", ("a", True)), (None, None), (1, 2), ("", ""), ("", "", ""), ((), (), ()),
    ("main", "", ()), ("main", "", ("*",)), ("main", "", (None,)), ("main", "", [("a",)]),
    ("main", (("a",),)), ("main", ({},)), ("main", "", ({},)), ([], [], []), ({}, {}, {}),
    ("main", "", (True, "p")), ("main", ("a", "*", "b")), ("nofile", ("a",)), ("nofile", "", ("a",)),
    deep(40, "list"), deep(40, "tuple"), deep(40, "dict"), ("main", deep(30, "tuple")),
    ("main", "", deep(30, "tuple")), ((("main", ""),),), [("main", "")], {1: [2, (3, {"x": None})]},
]


def project(*texts, **files):
    """A project of the text of main, or of files by their names."""
    if texts:
        files = dict(files, main=texts[0])
    return Project(tuple(files.items()))


def fault(*texts, **files):
    """The error of sources as (word, file, index), or None if there is none."""
    try:
        project(*texts, **files)
    except SourceError as error:
        return (error.word, error.file, error.index)
    return None


def marked(text):
    """A text without its @, and the index at which this stands."""
    at = text.index("@")
    assert text.count("@") == 1, text
    return text[:at] + text[at + 1:], at


def spaced(parts, chance):
    """A text with these tokens and any gaps between, and the index of each token."""
    text, starts = "", []
    for part in parts + [""]:
        gaps = [" ", "\n", "  ", " # a remark: { \" }\n", "#\n"]
        before, after = text[-1:], part[:1]
        if not text or not (before.isalnum() and after.isalnum()):
            gaps.append("")
        text += "".join(chance.choice(gaps) for _ in range(chance.randrange(1, 3)))
        if text and text[-1].isalnum() and after.isalnum():
            text += " "
        starts.append(len(text))
        text += part
    return text, starts


class Refusing(unittest.TestCase):
    """Tests of functions of a project and of any value."""

    def refused(self, error, ask, value):
        """The function raises this error with the very value, which stays as it is."""
        before = copy.deepcopy(value)
        with self.assertRaises(error) as caught:
            ask(self.project, value)
        self.assertIs(caught.exception.value, value)
        self.assertEqual(value, before)
