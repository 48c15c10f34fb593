"""Point 3: the phases behind the first one. An @ stands at the index of the error."""

import unittest

from helping import fault, project

LINE = "template line { size: 2 name: \"\" } "
GOODS = 'list goods (p: number, t: text) [ { p: 1 t: "a" } { t: "b" p: 2 } ] '


class Case(unittest.TestCase):
    def check(self, word, main=None, **files):
        """The one @ in the files is where the error is."""
        if main is not None:
            files["main"] = main
        at = [(name, text.index("@")) for name, text in files.items() if "@" in text]
        self.assertEqual(len(at), 1)
        self.assertEqual(sum(text.count("@") for text in files.values()), 1)
        plain = {name: text.replace("@", "") for name, text in files.items()}
        self.assertEqual(fault(**plain), (word,) + at[0], files)

    def right(self, main=None, **files):
        if main is not None:
            files["main"] = main
        self.assertIsNone(fault(**files), files)


class Import(Case):
    def test_a_file_that_is_not_there(self):
        self.check("import", "import @lib document { }")
        self.check("import", "import lib import @more document { }", lib="")

    def test_the_file_itself(self):
        self.check("import", "import @main")

    def test_a_file_named_twice(self):
        self.check("import", "import lib import @lib", lib="")
        self.check("import", "import lib import more import @lib", lib="", more="")

    def test_what_may_be(self):
        self.right("import lib import more", lib="import more import main", more="")


class Twice(Case):
    def test_templates_and_lists(self):
        self.check("twice", "template t { } template @t { }")
        self.check("twice", "template t { } list @t ( ) [ ]")
        self.check("twice", "list t ( ) [ ] template @t { }")
        self.check("twice", "list t ( ) [ ] list @t ( ) [ ]")
        self.check("twice", "template t { } template u { } template @t = u { }")

    def test_an_import_brings_a_known_name(self):
        self.check("twice", "import @lib template t { }", lib="template t { }")
        self.check("twice", "import @lib list t ( ) [ ]", lib="template t { }")
        self.check("twice", "import lib import @more", lib="template t { }", more="list t ( ) [ ]")
        self.check("twice", "import lib import more import @third", lib="template t { }", more="", third="template t { }")

    def test_a_name_that_stands_twice_in_an_imported_file_counts_there_alone(self):
        self.check("twice", main="import zed", zed="template t { } template @t { }")
        self.check("twice", main="import alib", alib="template t { } template @t { }")

    def test_an_import_does_not_bring_what_its_file_imports(self):
        self.right("import lib template t { }", lib="import more", more="template t { }")
        self.right("import lib import more", lib="import more", more="template t { }")

    def test_the_same_name_in_files_that_do_not_import_one_another(self):
        self.right("template t { }", lib="template t { }")

    def test_fields_in_bodies(self):
        self.check("twice", "document { a: 1 @a: 2 }")
        self.check("twice", "document { let a: 1 b: 2 let @a: 2 }")
        self.check("twice", "template t { a: 1 @a: \"\" }")
        self.check("twice", LINE + "template w = line { size: 1 @size: 2 }")
        self.check("twice", LINE + "document { l: new line { size: 1 @size: 2 } }")
        self.check("twice", LINE + "template b { l: new line } document { b: new b { l: { size: 1 @size: 2 } } }")
        self.check("twice", LINE + GOODS + "document { r: for g in goods give line { size: 1 @size: 2 } }")
        self.check("twice", LINE + GOODS + "document { r: 1 @r: for g in goods give line }")
        self.right(LINE + "document { size: 1 l: new line { size: 1 } }")

    def test_fields_in_lists_and_items(self):
        self.check("twice", "list l (p: number, @p: text) [ ]")
        self.check("twice", "list l (p: number) [ { p: 1 } { p: 1 @p: 2 } ]")
        self.right("list l (p: number) [ { p: 1 } { p: 1 } ]")

    def test_the_name_of_a_loop(self):
        self.check("twice", LINE + GOODS + "document { g: 1 r: for @g in goods give line }")
        self.check("twice", LINE + GOODS + "document { r: for @g in goods give line let g: 1 }")
        self.check("twice", LINE + GOODS + "document { r: for @r in goods give line }")
        self.check("twice", LINE + GOODS + "template t { r: for @s in goods give line s: new line }")
        self.right(LINE + GOODS + "document { r: for size in goods give line s: for size in goods give line }")
        self.right(LINE + GOODS + "document { r: for goods in goods give line s: for line in goods give line }")

    def test_the_first_of_several(self):
        self.check("twice", "list l (p: number, @p: text) [ ] document { a: 1 a: 1 }")
        self.check("twice", "document { b: 1 c: 1 @c: 2 b: 3 }")


class Name(Case):
    def test_not_known_at_all(self):
        self.check("name", "template w = @t { }")
        self.check("name", "document { a: new @t }")
        self.check("name", GOODS + "document { a: for g in goods give @t }")
        self.check("name", LINE + "document { a: for g in @goods give line }")
        self.check("name", LINE + "document { a: for g in @nothing give nothing }")

    def test_known_as_the_other_sort(self):
        self.check("name", GOODS + "template w = @goods { }")
        self.check("name", GOODS + "document { a: new @goods }")
        self.check("name", GOODS + "document { a: for g in goods give @goods }")
        self.check("name", LINE + "document { a: for g in @line give line }")

    def test_in_a_file_that_is_not_imported(self):
        self.check("name", "document { a: new @line }", lib=LINE)
        self.check("name", "import lib document { a: new @line }", lib="import more", more=LINE)
        self.check("name", lib="template t { a: new @line }", main="import lib " + LINE)
        self.right("import lib document { a: new line }", lib=LINE)

    def test_the_order_in_a_file_is_free(self):
        self.right("template w = line { } " + LINE)


class Ring(Case):
    def test_of_one(self):
        self.check("ring", "template @t = t { }")
        self.check("ring", "template @t { a: new t }")
        self.check("ring", GOODS + "template @t { a: for g in goods give t }")

    def test_over_others(self):
        words = ("a", "b", "c", "d", "e", "f")
        for length in range(2, 7):
            for use in ("{ x: new %s }", "{ x: for g in goods give %s }", "= %s { }"):
                for where in range(length):
                    # One of the ring uses the next one otherwise.
                    parts = []
                    for at in range(length):
                        form = use if at != where else "{ y: new %s }"
                        parts.append(f"template {'@' if at == 0 else ''}{words[at]} " + form % words[(at + 1) % length])
                    self.check("ring", GOODS + " ".join(parts))

    def test_over_files(self):
        self.check("ring", alib="import main template @t { a: new u }", main="import alib template u = t { }")

    def test_what_leads_to_a_ring_is_in_none(self):
        self.check("ring", "template u { a: new t } template @t { a: new t }")
        self.check("ring", "template u = t { } template @t { a: new v } template v { b: new t }")

    def test_two_ways_to_a_template_are_no_ring(self):
        self.right(LINE + "template t { a: new line b: new line } template w = t { } document { a: new w b: new t }")


class Field(Case):
    BOX = LINE + 'template box { width: 4 let depth: 2 label: "x" edge: new line } '
    SHELF = BOX + GOODS + "template shelf { n: 1 rows: for g in goods give box } "

    def test_a_field_that_is_not_there(self):
        self.check("field", self.BOX + "template w = box { @size: 1 }")
        self.check("field", self.BOX + "document { b: new box { width: 1 @size: 2 } }")
        self.check("field", self.BOX + "document { b: new box { edge: { @width: 2 } } }")
        self.check("field", self.SHELF + "document { r: for g in goods give box { @size: 2 } }")
        self.check("field", self.SHELF + "document { r: for g in goods give box { edge: { @width: 2 } } }")
        self.check("field", "list l (p: number) [ { p: 1 @q: 2 } ]")
        self.check("field", self.BOX + "document { b: new box { @size: { width: 2 } } }")

    def test_paths_that_lead_nowhere(self):
        self.check("field", "document { a: @b }")
        self.check("field", "document { a: 1 b: 2 * a + 3 * @c }")
        self.check("field", self.BOX + "document { b: new box a: @b.size }")
        self.check("field", self.BOX + "document { b: new box a: @b.edge.width }")
        self.check("field", "document { a: 1 b: if @c = 1 then a else 2 }")
        self.check("field", "document { a: 1 b: if a = 1 then @c else 2 }")
        self.check("field", "document { a: 1 b: if a = 1 then 2 else a - @c }")

    def test_paths_begin_at_the_home(self):
        self.check("field", self.BOX + "document { b: new box { width: @label } }")
        self.right(self.BOX + "document { b: new box { width: x } x: 1 }")
        self.right(self.BOX + "document { b: new box { edge: { size: x } } x: 1 }")
        self.right(self.BOX + "template w = box { edge: { size: width } }")
        self.check("field", self.BOX + "template w = box { edge: { size: @size } }")
        self.check("field", self.SHELF + "document { r: for g in goods give box { width: @width } }")

    def test_paths_of_a_wrong_sort(self):
        self.check("field", self.BOX + "document { b: new box a: @b }")
        self.check("field", self.BOX + "document { b: new box a: @b.edge }")
        self.check("field", self.BOX + "document { b: new box a: @b.width.size }")
        self.check("field", "document { b: 1 a: @b.c }")
        self.check("field", self.SHELF + "document { r: for g in goods give box a: @r }")
        self.check("field", self.SHELF + "document { r: for g in goods give box a: @r.width }")
        self.check("field", self.SHELF + "document { s: new shelf a: @s.rows }")
        self.check("field", self.SHELF + "document { s: new shelf a: @s.rows.width }")
        self.right(self.SHELF + "document { s: new shelf a: s.n b: new box c: b.depth d: b.edge.size }")

    def test_paths_to_the_item(self):
        start = self.SHELF + "document { x: 1 r: for g in goods "
        self.right(start + "give box { width: g.p } }")
        self.right(start + "give box { label: g.t edge: { size: 2 * g.p + x } } }")
        self.right(start + "give box { width: if g.t = \"a\" then g.p else x } }")
        self.check("field", start + "give box { width: @g.q } }")
        self.check("field", start + "give box { width: @g } }")
        self.check("field", start + "give box { width: @g.p.p } }")
        self.check("field", start + "give box { width: @h.p } }")
        self.check("field", start + "give box y: @g.p }")
        self.check("field", start + "give box s: for h in goods give box { width: @g.p } }")
        self.check("field", start + "give box b: new box { width: @g.p } }")

    def test_overrides_otherwise_than_the_kind_lets_it(self):
        self.check("field", self.SHELF + "template w = shelf { @rows: 1 }")
        self.check("field", self.SHELF + "template w = shelf { @rows: { width: 1 } }")
        self.check("field", self.SHELF + "document { s: new shelf { @rows: { } } }")
        for value in ("1", '"x"', "n", "n + 1", "if n = 1 then 1 else 2"):
            self.check("field", self.BOX + f"document {{ n: 1 b: new box {{ @edge: {value} }} }}")
        self.check("field", self.BOX + "document { b: new box { @width: { } } }")
        self.check("field", self.BOX + "document { b: new box { @label: { size: 1 } } }")
        self.check("field", self.BOX + "document { b: new box { @depth: { } } }")
        self.right(self.BOX + "document { b: new box { edge: { } depth: 3 } }")

    def test_a_where(self):
        start = self.SHELF + "document { x: 1 r: for g in goods where "
        self.right(start + "g.p = 1 give box }")
        self.right(start + "g.p = x give box }")
        self.check("field", start + "@g = 1 give box }")
        self.check("field", start + "@g.q = 1 give box }")
        self.check("field", start + "@g.p.p = 1 give box }")
        self.check("field", start + "@x = 1 give box }")
        self.check("field", start + "@h.p = 1 give box }")
        self.check("field", start + "g.p = @g.p give box }")
        self.check("field", start + "g.p = @g give box }")
        self.check("field", start + "g.p = @y give box }")
        self.check("field", start + "g.p = @r give box }")
        self.check("field", start + "g.p = @width give box }")
        self.right(self.SHELF + "document { b: new box r: for g in goods where g.p = b.edge.size give box }")

    def test_an_imported_list_is_known_where_the_loop_stands(self):
        lib = GOODS + LINE + "template t { r: for g in goods where g.p = 1 give line { size: g.p } }"
        self.right("import lib document { a: new t }", lib=lib)
        self.check("twice", "import @lib list goods (z: text) [ ]", lib=lib)

    def test_each_file_reads_its_names_for_itself(self):
        # Both files know a template inner, each its own.
        lib = "template inner { a: 1 } template outer { i: new inner }"
        self.right("import lib document { o: new outer { i: { a: 2 } } b: o.i.a }", lib=lib)
        three = {"lib": "import deep template outer { i: new inner }", "deep": "template inner { a: 1 }"}
        self.right("import lib template inner { z: 1 } document { o: new outer { i: { a: 2 } } }", **three)
        self.check("field", "import lib template inner { z: 1 } document { o: new outer { i: { @z: 2 } } }", **three)


class Kind(Case):
    BOX = Field.BOX

    def test_literals(self):
        self.check("kind", self.BOX + "template w = box { width: @\"x\" }")
        self.check("kind", self.BOX + "template w = box { label: @3 }")
        self.check("kind", self.BOX + "template w = box { label: @-3 }")
        self.check("kind", self.BOX + "document { b: new box { edge: { size: @\"\" } } }")
        self.check("kind", self.BOX + GOODS + "document { r: for g in goods give box { depth: @\"\" } }")

    def test_sums(self):
        self.check("kind", 'document { a: "x" b: @a + 1 }')
        self.check("kind", 'document { a: "x" b: @1 + a }')
        self.check("kind", 'document { a: "x" b: @- a }')
        self.check("kind", 'document { a: "x" b: @1 * a }')
        self.check("kind", 'document { a: "x" n: 1 b: @n - 2 * a }')
        self.check("kind", self.BOX + "document { n: 1 b: new box { label: @n + 1 } }")
        self.check("kind", self.BOX + "document { n: \"\" b: new box { label: @n + 1 } }")
        self.check("kind", self.BOX + "document { n: \"\" b: new box { width: @n + 1 } }")
        self.check("kind", self.BOX + GOODS + "document { r: for g in goods give box { width: @2 * g.t } }")

    def test_copies(self):
        self.right('document { a: "x" b: a c: b n: 1 m: n k: m + 1 }')
        self.check("kind", 'document { a: "x" b: a c: @b + 1 }')
        self.check("kind", self.BOX + "document { n: 1 b: new box { label: @n } }")
        self.check("kind", self.BOX + "document { n: \"\" b: new box { width: @n } }")
        self.check("kind", self.BOX + GOODS + "document { r: for g in goods give box { width: @g.t } }")
        self.check("kind", self.BOX + GOODS + "document { r: for g in goods give box { label: @g.p } }")
        self.right(self.BOX + GOODS + "document { r: for g in goods give box { label: g.t width: g.p } }")

    def test_copies_whose_kind_is_told_later(self):
        self.right('template t { e: "x" } document { b: a a: c c: d.e d: new t }')
        self.check("kind", 'template t { e: f f: "x" } document { k: @b + 1 b: a a: d.e d: new t }')
        self.check("kind", 'template w = t { e: @1 } template t { e: f f: "x" }')
        self.right('template w = t { e: 1 } template t { e: f f: 3 }')
        many = "".join([f"a{word}: a{following} " for word, following in zip(LONG, LONG[1:])])
        self.right("document { " + many + f"a{LONG[-1]}: \"x\" }}")
        self.check("kind", "document { " + many + f"a{LONG[-1]}: \"x\" z: @1 + aaaa }}")

    def test_choices(self):
        self.right('document { n: 1 t: "x" a: if n = 1 then t else "y" b: if t = "x" then n else 2 * n }')
        self.check("kind", 'document { n: 1 a: if n = 1 then "x" else @2 }')
        self.check("kind", 'document { n: 1 a: if n = 1 then 2 else @"x" }')
        self.check("kind", 'document { n: 1 t: "x" a: if n = 1 then 2 else @t }')
        self.check("kind", 'document { n: 1 t: "x" a: if n = 1 then t else @n }')
        self.check("kind", 'document { n: 1 t: "x" a: if n = 1 then t else @n + 1 }')
        self.check("kind", 'document { n: 1 t: "x" a: if n = 1 then @1 + t else 3 }')
        self.check("kind", self.BOX + "document { n: 1 b: new box { width: if n = 1 then @\"\" else 2 } }")
        self.check("kind", self.BOX + "document { n: 1 b: new box { label: if n = 1 then \"\" else @2 } }")
        self.check("kind", self.BOX + "document { n: 1 b: new box { label: if n = 1 then @n else \"\" } }")

    def test_a_choice_has_the_kind_of_its_first_side_that_has_one(self):
        # The first side leads back to a; so a is a text, and then a circle.
        self.check("circle", '@document { n: 1 a: if n = 1 then b else "x" b: a }')
        self.check("kind", 'document { n: 1 a: if n = 1 then b else "x" b: a c: @a + 1 }')
        self.check("kind", 'document { n: 1 a: if n = 1 then b else "x" b: a c: @1 + b }')

    def test_a_field_whose_copies_lead_back_is_a_number(self):
        self.check("circle", "@document { a: b b: a c: a + 1 }")
        self.check("kind", 'template t { a: b b: a } document { u: new t { a: @"x" } }')
        self.check("kind", 'document { a: b b: a n: 1 c: if n = 1 then a else @"x" }')
        self.check("circle", "@document { a: a b: a + 1 }")

    def test_compared_literals(self):
        self.check("kind", 'document { n: 1 a: if n = @"x" then 1 else 2 }')
        self.check("kind", 'document { n: "" a: if n = @-1 then 1 else 2 }')
        self.check("kind", 'document { n: "" b: n a: if b = @1 then 1 else 2 }')
        self.check("kind", self.BOX + GOODS + 'document { r: for g in goods give box { width: if g.t = @1 then 1 else 2 } }')

    def test_both_sides_of_a_where(self):
        start = self.BOX + GOODS + 'document { n: 1 t: "" r: for g in goods where '
        self.check("kind", start + "g.p = @\"\" give box }")
        self.check("kind", start + "g.t = @-1 give box }")
        self.check("kind", start + "g.p = @t give box }")
        self.check("kind", start + "g.t = @n give box }")
        self.right(start + "g.t = t give box s: for g in goods where g.p = n give box }")

    def test_items(self):
        self.check("kind", "list l (p: number, q: text) [ { p: 1 q: \"\" } @{ p: 1 } ]")
        self.check("kind", "list l (p: number) [ @{ } ]")
        self.check("kind", "list l (p: number) [ { p: @\"\" } ]")
        self.check("kind", "list l (p: text) [ { p: @-1 } ]")
        self.check("kind", "list l (p: number, q: text) [ @{ p: \"\" } ]")
        self.right("list l ( ) [ { } { } ]")


LONG = [a + b + c for a in "abcdefghij" for b in "abcdefghij" for c in "abcdefghij"][:400]


class Circle(Case):
    def test_of_one_and_of_several(self):
        self.check("circle", "@document { a: a }")
        self.check("circle", "# x\n @document { a: 2 * a + 1 }")
        self.check("circle", "@document { a: b + 1 b: c c: 3 - a }")
        self.right("document { a: b + c b: c + d c: d d: 1 }")

    def test_over_many(self):
        many = "".join([f"a{word}: a{following} " for word, following in zip(LONG, LONG[1:])])
        self.check("circle", "@document { " + many + f"a{LONG[-1]}: a{LONG[0]} }}")

    def test_hidden_places(self):
        self.check("circle", "@document { let a: b let b: a }")
        self.check("circle", "template t { let a: a } @document { let u: new t }")

    def test_templates_that_no_document_uses(self):
        self.right("template t { a: b b: a } document { c: 1 }")
        self.right("template t { a: b b: a }")

    def test_at_the_document_that_has_the_places(self):
        self.check("circle", lib="template t { a: b b: a }", main="import lib @document { u: new t }")

    def test_over_overrides(self):
        self.check("circle", "template t { a: 1 b: a } @document { u: new t { a: u.b } }")
        self.check("circle", "template t { a: 1 b: a } template w = t { a: b } @document { u: new w }")
        self.check("circle", "template t { a: 1 } @document { x: u.a u: new t { a: x } }")
        self.right("template t { a: 1 b: a } template w = t { b: 2 * a } document { u: new w { a: x } x: v.b v: new t }")

    def test_an_override_takes_a_circle_away(self):
        self.right("template t { a: b b: a } document { n: 1 u: new t { a: n + 1 } }")
        self.right("template t { c: 1 a: b b: a } template w = t { b: c + 1 a: 3 + c } document { u: new w }")

    def test_literals_that_hide_an_expression_do_not_count(self):
        self.check("circle", "template t { a: b b: a } @document { u: new t { a: 1 } }")
        self.check("circle", "template t { a: b b: a } template w = t { a: 1 } @document { u: new w { a: 2 b: 3 } }")

    def test_behind_the_outermost_expression_nothing_is_read(self):
        self.right("template t { a: b b: 1 c: 1 } template w = t { b: a a: 3 * c } document { u: new w }")
        self.right("template t { a: b b: a } document { n: 1 u: new t { a: 1 * n } }")
        self.right("template t { n: 1 a: b b: a } template w = t { a: 2 * n } document { u: new w { a: 1 } }")

    def test_both_ways_of_a_choice_and_the_compared_path(self):
        self.check("circle", "@document { n: 1 a: if n = 1 then 1 else b b: a }")
        self.check("circle", "@document { n: 1 a: if n = 2 then b else 1 b: a }")
        self.check("circle", "@document { a: if b = 2 then 3 else 1 b: a }")
        self.check("circle", "@document { a: if a = 2 then 3 else 1 }")

    def test_records_are_told_apart(self):
        self.right("template t { a: 1 b: a } document { u: new t { a: v.b } v: new t { a: w.b } w: new t }")
        self.check("circle", "template t { a: 1 b: a } @document { u: new t { a: v.b } v: new t { a: u.b } }")

    def test_in_rows_also_of_lists_without_items(self):
        lists = "list none (p: number) [ ] list one (p: number) [ { p: 1 } ] "
        for name in ("none", "one"):
            round_about = lists + "template t { a: b b: a } "
            self.check("circle", round_about + f"@document {{ r: for g in {name} give t }}")
            self.check("circle", round_about + f"@document {{ r: for g in {name} where g.p = 7 give t }}")
            within = "template t { a: 1 b: a } template w = t { a: b } " + f"template s {{ r: for g in {name} give w }} "
            self.check("circle", lists + within + f"@document {{ q: for h in {name} give s }}")
            straight = lists + "template t { a: 1 b: a } "
            self.right(straight + f"document {{ n: 1 r: for g in {name} give t {{ a: n + g.p }} }}")

    def test_a_where_is_read_by_no_place(self):
        self.right("list l (p: number) [ { p: 1 } ] template t { a: 1 } "
                   "document { n: 1 r: for g in l where g.p = n give t { a: n } }")


class Made(Case):
    def test_right_files_make_a_project(self):
        made = project("import lib document { a: new line }", lib=LINE)
        self.assertEqual(made.names, ("lib", "main"))


if __name__ == "__main__":
    unittest.main()
