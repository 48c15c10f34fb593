"""The grammar of files. It refuses the first token with which no file can go on."""

from sourceback.errors import SourceError
from sourceback.files import QUOTE, is_name, next_start, tokens
from sourceback.numerals import number_in
from sourceback.trees import Body, Choice, Column, Entry, FileTree, Literal, Loop, Mark, Owner
from sourceback.trees import Path, Record, Stock, Sum, Term, Where


def tree_of(file, text):
    """The tree of a file; raises SourceError with sign or form."""
    return Parser(file, text).read_file()


class Parser:
    """Goes through the tokens of a file. Behind the last one stands "" as the end."""

    def __init__(self, file, text):
        self.file = file
        self.found = list(tokens(text))
        last = self.found[-1] if self.found else (0, "")
        end = next_start(text, last[0] + len(last[1]))
        # A character that begins no token ends the tokens ahead of the end of the text.
        self.end_word = "form" if end == len(text) else "sign"
        self.found.append((end, ""))
        self.at = 0

    def here(self):
        """The index of the token that comes next."""
        return self.found[self.at][0]

    def token(self):
        """The token that comes next."""
        return self.found[self.at][1]

    def take(self):
        """Go over the token that comes next."""
        token = self.token()
        self.at += 1
        return token

    def refuse(self):
        """Raise the error of the token that comes next."""
        word = self.end_word if self.token() == "" else "form"
        raise SourceError(word, self.file, self.here())

    def expect(self, token):
        """Go over this very token."""
        if self.token() != token:
            self.refuse()
        self.at += 1

    def accepts(self, token):
        """Go over this token if it comes next, and tell whether it did."""
        if self.token() != token:
            return False
        self.at += 1
        return True

    def text_from(self, start):
        """The tokens from the one with this number on, with single blanks between."""
        return " ".join([token for _, token in self.found[start:self.at]])

    def read_name(self):
        """A name."""
        if not is_name(self.token()):
            self.refuse()
        return Mark(self.here(), self.take())

    def read_file(self):
        """The whole file."""
        tree = FileTree(self.file)
        while self.accepts("import"):
            tree.imports.append(self.read_name())
        while self.token() in ("template", "list"):
            tree.declared.append(self.read_template() if self.token() == "template" else self.read_stock())
        if self.token() == "document":
            mark = Mark(self.here(), "")
            self.expect("document")
            tree.document = Owner(self.file, mark, None, self.read_body(True))
        if self.token() != "" or self.end_word == "sign":
            self.refuse()
        return tree

    def read_template(self):
        """A template."""
        self.expect("template")
        mark = self.read_name()
        parent = self.read_name() if self.accepts("=") else None
        return Owner(self.file, mark, parent, self.read_body(parent is None))

    def read_stock(self):
        """A list."""
        self.expect("list")
        mark = self.read_name()
        columns = self.read_columns()
        self.expect("[")
        goods = []
        while self.token() != "]":
            goods.append(self.read_item())
        self.expect("]")
        return Stock(self.file, mark, columns, goods)

    def read_columns(self):
        """The fields of a list, with the brackets around them."""
        self.expect("(")
        columns = []
        if self.token() != ")":
            columns.append(self.read_column())
            while self.accepts(","):
                columns.append(self.read_column())
        self.expect(")")
        return columns

    def read_column(self):
        """A field of a list."""
        mark = self.read_name()
        self.expect(":")
        if self.token() not in ("number", "text"):
            self.refuse()
        return Column(mark, self.take())

    def read_item(self):
        """An item of a list."""
        index = self.here()
        self.expect("{")
        entries = []
        while self.token() != "}":
            mark = self.read_name()
            self.expect(":")
            entries.append(Entry(mark, False, self.read_literal()))
        self.expect("}")
        return Body(index, False, entries)

    def read_body(self, declaring):
        """A body, with its braces."""
        index = self.here()
        self.expect("{")
        entries = []
        while self.token() != "}":
            entries.append(self.read_entry(declaring))
        self.expect("}")
        return Body(index, declaring, entries)

    def read_entry(self, declaring):
        """An entry of a body."""
        hidden = declaring and self.accepts("let")
        mark = self.read_name()
        self.expect(":")
        return Entry(mark, hidden, self.read_value(declaring, hidden))

    def read_value(self, declaring, hidden):
        """The value of an entry."""
        token = self.token()
        if token == "if":
            return self.read_choice()
        if token == "{" and not declaring:
            return self.read_body(False)
        if token == "new" and declaring:
            return self.read_record("new")
        if token == "for" and declaring and not hidden:
            return self.read_loop()
        return self.read_simple()

    def read_record(self, word):
        """A template behind this word, and its body if there is one."""
        self.expect(word)
        template = self.read_name()
        return Record(template, self.read_body(False) if self.token() == "{" else None)

    def read_loop(self):
        """The rows of a list."""
        self.expect("for")
        mark = self.read_name()
        self.expect("in")
        stock = self.read_name()
        where = self.read_where() if self.accepts("where") else None
        return Loop(mark, stock, where, self.read_record("give"))

    def read_where(self):
        """The condition of a loop, behind its word."""
        start = self.at
        left = self.read_path()
        self.expect("=")
        right = self.read_path() if is_name(self.token()) else self.read_literal()
        return Where(self.text_from(start), left, right)

    def read_choice(self):
        """A choice."""
        start = self.at
        index = self.here()
        self.expect("if")
        path = self.read_path()
        self.expect("=")
        literal = self.read_literal()
        self.expect("then")
        first = self.read_simple()
        self.expect("else")
        second = self.read_simple()
        return Choice(index, self.text_from(start), (path, literal), (first, second))

    def read_simple(self):
        """A literal or a sum. Terms without a path are no sum yet."""
        start = self.at
        index = self.here()
        if self.token()[:1] == QUOTE:
            return self.read_literal()
        terms = [self.read_term(-1 if self.accepts("-") else 1)]
        while self.token() in ("+", "-"):
            terms.append(self.read_term(-1 if self.take() == "-" else 1))
        if all([term.path is None for term in terms]):
            if len(terms) > 1:
                self.refuse()
            return Literal(index, terms[0].factor)
        alone = len(terms) == 1 and is_name(self.found[start][1])
        return Sum(index, self.text_from(start), terms, alone)

    def read_term(self, sign):
        """A term of a sum, with the sign ahead of it."""
        if not self.token().isdigit():
            return Term(sign, self.read_path())
        number = sign * self.read_digits()
        return Term(number, self.read_path() if self.accepts("*") else None)

    def read_digits(self):
        """A number without a sign."""
        if not self.token().isdigit():
            self.refuse()
        return number_in(self.take())

    def read_literal(self):
        """A literal."""
        index = self.here()
        if self.token()[:1] == QUOTE:
            return Literal(index, self.take()[1:-1])
        sign = -1 if self.accepts("-") else 1
        return Literal(index, sign * self.read_digits())

    def read_path(self):
        """A path."""
        mark = self.read_name()
        parts = [mark.name]
        while self.accepts("."):
            parts.append(self.read_name().name)
        return Path(mark.index, tuple(parts))
