"""Point 4: projects."""

import copy
import itertools
import unittest

from helping import ANY, project
from sourceback.errors import BadFiles, NoFile, NoList, SourceError
from sourceback.projects import Project

SIX = tuple((name, f"document {{ {name}: {number} }}") for number, name in enumerate("abcdef"))


def items(count):
    """A list with so many items."""
    return "list goods (p: number) [ " + "".join(f"{{ p: {n} }} " for n in range(count)) + "]"


class Files(unittest.TestCase):
    def test_in_any_order(self):
        for count in range(1, 7):
            for files in itertools.islice(itertools.permutations(SIX[:count]), 200):
                made = Project(files)
                self.assertEqual(made.files, SIX[:count])
                self.assertEqual(made.names, tuple("abcdef"[:count]))
                self.assertEqual(len(made), count)

    def test_documents(self):
        made = project(a="template t { }", b="document { }", c="", d="list l ( ) [ ] document { x: 1 }")
        self.assertEqual(made.documents, ("b", "d"))
        self.assertEqual(project(a="").documents, ())

    def test_by_name(self):
        self.assertEqual(Project(files=SIX), Project(SIX))

    def test_values_that_are_no_files(self):
        more = [(), SIX + (("g", ""),), list(SIX), (SIX[0], SIX[0]), (SIX[0], ("a", "")), SIX[0],
                (("a", "", ""),), (("a",),), (["a", ""],), (("A", ""),), (("new", ""),), (("", ""),),
                (("abcdefghijklm", ""),), (("a", None),), (("a", 3),), (("a", b""),), ((None, ""),), ((True, ""),),
                (("a", "\\"),), (("a", "\t"),), (("a", "\r\n"),), (("a", "\x7f"),), (("a", "\u00e4"),), (("a", "\0"),),
                (("a", ["document"]),), {("a", ""): 1}, (("a", ""), None), ("ab", "cd"), "a"]
        for value in ANY + more:
            before = copy.deepcopy(value)
            with self.assertRaises(BadFiles) as caught:
                Project(value)
            self.assertIs(caught.exception.value, value)
            self.assertEqual(value, before)

    def test_bad_files_come_ahead_of_the_sources(self):
        with self.assertRaises(BadFiles):
            Project((("a", "{"), ("b", "\\")))

    def test_all_signs_that_a_text_can_have(self):
        text = "# " + "".join(chr(code) for code in range(32, 127) if chr(code) != "\\") + "\n\n"
        self.assertEqual(project(text)["main"], text)


class Asking(unittest.TestCase):
    def setUp(self):
        self.project = Project(SIX[:3])

    def test_a_text(self):
        for name, text in SIX[:3]:
            self.assertEqual(self.project[name], text)
            self.assertIs(name in self.project, True)

    def test_any_value(self):
        for value in ANY + ["d", ("a",), ["a"], {"a": 1}, b"a"]:
            self.assertIs(value in self.project, False)
            with self.assertRaises(NoFile) as caught:
                self.project[value]
            self.assertIs(caught.exception.value, value)

    def test_equal(self):
        self.assertEqual(self.project, Project(SIX[2::-1]))
        self.assertIs(self.project == Project(SIX[:3]), True)
        self.assertIs(self.project != Project(SIX[:3]), False)
        self.assertIs(self.project == Project(SIX[:2]), False)
        self.assertIs(self.project == Project(SIX[:2] + (("c", ""),)), False)
        for value in ANY + [SIX[:3], self.project.files, list(SIX[:3])]:
            self.assertIs(self.project == value, False)
            self.assertIs(value == self.project, False)
            self.assertIs(self.project != value, True)

    def test_equal_projects_may_have_different_serials(self):
        one = project(items(2))
        other = one.written("main", items(1)).written("main", items(2))
        self.assertEqual(one, other)
        self.assertEqual((one.serials("main", "goods"), other.serials("main", "goods")), ((0, 1), (0, 2)))


class Serials(unittest.TestCase):
    def test_of_a_project_made_of_files(self):
        made = project("import lib " + items(3) + " list none ( ) [ ] list two ( ) [ { } { } ]", lib="list more ( ) [ { } ]")
        self.assertEqual(made.serials("main", "goods"), (0, 1, 2))
        self.assertEqual(made.serials(file="main", name="none"), ())
        self.assertEqual(made.serials("main", "two"), (0, 1))
        self.assertEqual(made.serials("lib", "more"), (0,))
        self.assertEqual(made.next_serial("main", "goods"), 3)
        self.assertEqual(made.next_serial(file="main", name="none"), 0)
        self.assertEqual(made.next_serial("lib", "more"), 1)

    def test_no_list(self):
        made = project("import lib template t { } " + items(3), lib="list more ( ) [ { } ]")
        pairs = [("main", "more"), ("main", "t"), ("lib", "goods"), ("nofile", "goods"), ("main", ""), ("", "goods")]
        pairs += [(value, "goods") for value in ANY] + [("main", value) for value in ANY] + [(v, v) for v in ANY]
        for file, name in pairs:
            for ask in (made.serials, made.next_serial):
                with self.assertRaises(NoList) as caught:
                    ask(file, name)
                self.assertIs(caught.exception.file, file)
                self.assertIs(caught.exception.name, name)


class Written(unittest.TestCase):
    def told(self, made, name="goods"):
        return (made.serials("main", name), made.next_serial("main", name))

    def test_another_text(self):
        made = Project(SIX[:3])
        new = made.written("b", "document { z: 1 }")
        self.assertEqual(new.files, (SIX[0], ("b", "document { z: 1 }"), SIX[2]))
        self.assertEqual(made.files, SIX[:3])
        self.assertEqual(made.written(name="b", text=SIX[1][1]), made)

    def test_a_new_file(self):
        made = Project(SIX[1:3])
        self.assertEqual(made.written("a", SIX[0][1]), Project(SIX[:3]))
        self.assertEqual(Project(SIX[:5]).written("f", SIX[5][1]), Project(SIX))

    def test_without_a_file(self):
        made = Project(SIX[:3])
        self.assertEqual(made.written("b", None), Project((SIX[0], SIX[2])))
        self.assertEqual(made.written("b", None).names, ("a", "c"))

    def test_without_a_file_that_is_not_there(self):
        made = Project(SIX[:3])
        for value in ANY + ["z", "d"]:
            self.assertIs(made.written(value, None), made)
        alone = Project(SIX[:1])
        self.assertEqual(alone.written("z", None), alone)

    def bad(self, made, name, text):
        with self.assertRaises(BadFiles) as caught:
            made.written(name, text)
        self.assertEqual(caught.exception.value, (name, text))
        self.assertIs(caught.exception.value[0], name)
        self.assertIs(caught.exception.value[1], text)

    def test_what_cannot_be(self):
        self.bad(Project(SIX), "g", "")
        self.bad(Project(SIX), "g", "{")
        self.bad(Project(SIX[:1]), "a", None)
        made = Project(SIX[:3])
        for value in ANY:
            if not isinstance(value, str):
                self.bad(made, value, "")
                if value is not None:
                    self.bad(made, "a", value)
                    self.bad(made, "z", value)
                    self.bad(made, value, value)
        for name in ("", "A", "new", "abcdefghijklm", "a b"):
            self.bad(made, name, "")
        for text in ("\\", "\t", "a\r", "\u00e4", "\x7f"):
            self.bad(made, "a", text)
            self.bad(made, "z", text)
        self.assertEqual(made.files, SIX[:3])

    def test_then_the_sources(self):
        with self.assertRaises(SourceError):
            Project(SIX[:3]).written("a", "{")

    def test_items_keep_the_serials_of_their_indexes(self):
        made = project(items(3))
        fewer = made.written("main", items(1))
        self.assertEqual(self.told(made), ((0, 1, 2), 3))
        self.assertEqual(self.told(fewer), ((0,), 3))
        more = fewer.written("main", items(3))
        self.assertEqual(self.told(more), ((0, 3, 4), 5))
        self.assertEqual(self.told(more.written("main", items(0))), ((), 5))
        self.assertEqual(self.told(more.written("main", items(0)).written("main", items(2))), ((5, 6), 7))
        self.assertEqual(self.told(more.written("main", items(3) + " # remark")), ((0, 3, 4), 5))

    def test_other_files_keep_theirs(self):
        made = project(items(2), lib="").written("main", items(1)).written("main", items(2))
        self.assertEqual(self.told(made), ((0, 2), 3))
        self.assertEqual(self.told(made.written("lib", "document { }")), ((0, 2), 3))
        self.assertEqual(self.told(made.written("lib", None)), ((0, 2), 3))
        self.assertEqual(self.told(made.written("more", items(4))), ((0, 2), 3))
        self.assertEqual(made.written("more", items(4)).serials("more", "goods"), (0, 1, 2, 3))

    def test_a_list_that_was_not_there_begins_with_nought(self):
        made = project(items(2)).written("main", items(1)).written("main", items(2))
        gone = made.written("main", "")
        self.assertEqual(self.told(gone.written("main", items(2))), ((0, 1), 2))
        other = made.written("main", items(3).replace("goods", "wares"))
        self.assertEqual(self.told(other, "wares"), ((0, 1, 2), 3))
        with self.assertRaises(NoList):
            other.serials("main", "goods")
        two = project(items(2), lib="").written("main", items(1))
        self.assertEqual(two.written("main", None).written("main", items(2)).serials("main", "goods"), (0, 1))

    def test_the_old_project_stays_as_it_is(self):
        made = project(items(2))
        made.written("main", items(5))
        made.written("main", items(0))
        self.assertEqual(self.told(made), ((0, 1), 2))


if __name__ == "__main__":
    unittest.main()
