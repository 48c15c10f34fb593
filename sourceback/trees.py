"""What a file says, as a tree. An index is that of a character in the text."""


class Mark:
    """A name where it is used."""

    def __init__(self, index, name):
        self.index = index
        self.name = name


class FileTree:
    """A file: its imports, its templates and lists as they follow one another, its document."""

    def __init__(self, name):
        self.name = name
        self.imports = []
        self.declared = []
        self.document = None

    def owners(self):
        """The templates, and the document behind them."""
        templates = [owner for owner in self.declared if isinstance(owner, Owner)]
        return templates if self.document is None else templates + [self.document]

    def stocks(self):
        """The lists."""
        return [stock for stock in self.declared if isinstance(stock, Stock)]


class Owner:
    """A template, or a document (with the name "" and the index of its word)."""

    def __init__(self, file, mark, parent, body):
        self.file = file
        self.index = mark.index
        self.name = mark.name
        self.parent = parent
        self.body = body


class Stock:
    """A list: its columns and its goods, which the document calls fields and items."""

    def __init__(self, file, mark, columns, goods):
        self.file = file
        self.index = mark.index
        self.name = mark.name
        self.columns = columns
        self.goods = goods

    def kinds(self):
        """The kinds of the fields by their names."""
        return {column.name: column.kind for column in self.columns}


class Column:
    """A field of a list."""

    def __init__(self, mark, kind):
        self.index = mark.index
        self.name = mark.name
        self.kind = kind


class Body:
    """The entries between two braces, also those of an item of a list."""

    def __init__(self, index, declaring, entries):
        self.index = index
        self.declaring = declaring
        self.entries = entries
        self.named = {entry.name: entry for entry in entries[::-1]}


class Entry:
    """A field that is declared or given, with its value."""

    def __init__(self, mark, hidden, value):
        self.index = mark.index
        self.name = mark.name
        self.hidden = hidden
        self.value = value


class Literal:
    """A number or a string."""

    def __init__(self, index, worth):
        self.index = index
        self.worth = worth


class Path:
    """Names with dots between."""

    def __init__(self, index, parts):
        self.index = index
        self.parts = parts


class Term:
    """A number times a path, or the number alone (the path is None)."""

    def __init__(self, factor, path):
        self.factor = factor
        self.path = path


class Sum:
    """Terms that are added; a copy if it is one path alone."""

    def __init__(self, index, words, terms, alone):
        self.index = index
        self.words = words
        self.terms = terms
        self.alone = alone

    def paths(self):
        """The paths, from the left to the right."""
        return [term.path for term in self.terms if term.path is not None]


class Choice:
    """A path that is compared with a literal, and the two sides."""

    def __init__(self, index, words, compared, sides):
        self.index = index
        self.words = words
        self.path, self.literal = compared
        self.sides = sides

    def paths(self):
        """The compared path and those of both sides, from the left to the right."""
        found = [self.path]
        for side in self.sides:
            found += paths_of(side)
        return found


class Record:
    """A template behind new; the body may be None."""

    def __init__(self, template, body):
        self.template = template
        self.body = body


class Loop:
    """Rows: a name for the item, a list, a condition or None, a template, a body or None."""

    def __init__(self, item, stock, where, record):
        self.item = item
        self.stock = stock
        self.where = where
        self.template = record.template
        self.body = record.body


class Where:
    """A path to a field of the item, and a literal or a path."""

    def __init__(self, words, left, right):
        self.words = words
        self.left = left
        self.right = right


def literal_kind(literal):
    """The kind that a literal has."""
    return "number" if isinstance(literal.worth, int) else "text"


def paths_of(value):
    """The paths of a literal, a sum or a choice, from the left to the right."""
    return [] if isinstance(value, Literal) else value.paths()


def right_paths(where):
    """The path on the right side of a condition, if there is one."""
    return [] if isinstance(where.right, Literal) else [where.right]
