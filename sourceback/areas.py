"""The outputs of documents as areas and stacks, in which the steps of an edit are made.

An area is a document or a row; a path within it is one of field names alone. A stack is the rows
at a rows place. Both stay the same ones where they, or what is around them, are carried.
"""

from sourceback.trees import Loop, Record


class Area:
    """A document or a row: its numbers and strings and its stacks, by their paths within it.

    serial is None for a document. name is the (file, path) at which it stood in the project, None for a
    row that was put in; stack is the one in which a row is now.
    """

    def __init__(self, base, serial, stack, name):
        self.base = base
        self.serial = serial
        self.stack = stack
        self.name = name
        self.worths = {}
        self.stacks = {}
        # Whether this edit put it in, and the paths of the values that it set.
        self.fresh = name is None
        self.renewed = {}

    def is_within(self, row):
        """Tell whether this is a row, or within it; never if the row is None."""
        area = self
        while area != row and area.stack is not None:
            area = area.stack.area
        return area == row


class Stack:
    """The rows at a rows place: its area and the path within it, the rows in their order.

    stock and template are the list and the template of the rows, each as (file, name), and base is
    that of the template; began has the serials in the project, gone those of the rows that a step
    took or carried.
    """

    def __init__(self, area, path, leads):
        self.area = area
        self.path = path
        self.stock, self.template, self.base = leads
        self.rows = []
        self.began = ()
        self.gone = {}

    def shows(self):
        """The serials of the rows."""
        return tuple([row.serial for row in self.rows])

    def row_at(self, serial):
        """The row of an item, or None."""
        found = [row for row in self.rows if row.serial == serial]
        return found[0] if found else None

    def lets_in(self, serial):
        """Tell whether a row of an item can come: it has none here, and none that was here left."""
        return self.row_at(serial) is None and serial not in self.gone


class Filler:
    """Makes areas of labelled records: of the project, or of rows that are put in."""

    def __init__(self, sources, is_put):
        self.sources = sources
        self.is_put = is_put

    def make_document(self, owner, record):
        """The area of a document."""
        area = Area(owner, None, None, (owner.file, ()))
        self.fill(area, owner, (), record)
        return area

    def make_row(self, stack, serial, record):
        """The area of a row, which is not put in among the rows yet."""
        area = Area(stack.base, serial, stack, None if self.is_put else name_of(stack.area, stack.path + (serial,)))
        self.fill(area, stack.base, (), record)
        return area

    def fill(self, area, base, path, record):
        """Give an area what is said in the record to which a path within it leads."""
        for name, value in record:
            entry = base.body.named[name]
            further = path + (name,)
            if isinstance(entry.value, Record):
                self.fill(area, self.sources.inner(base, entry), further, value)
            elif isinstance(entry.value, Loop):
                area.stacks[further] = Stack(area, further, self.leads(base, entry))
                self.pile(area.stacks[further], value)
            else:
                area.worths[further] = value

    def leads(self, base, entry):
        """The list and the template of the rows of a field, and the base of this template."""
        stock = self.sources.known_stock(base.file, entry.value.stock.name)
        used = self.sources.used(base, entry)
        return ((stock.file, stock.name), (used.file, used.name), self.sources.base_of(used))

    def pile(self, stack, rows):
        """Give a stack its rows."""
        stack.rows = [self.make_row(stack, serial, record) for serial, record in rows]
        if not self.is_put:
            stack.began = stack.shows()


def rows_within(row):
    """A row and all rows in it, from the left to the right, each ahead of those in it."""
    found = [row]
    for stack in row.stacks.values():
        for inner in stack.rows:
            found += rows_within(inner)
    return found


def place_now(area, path):
    """The place to which a path within an area now leads."""
    while area.stack is not None:
        path = area.stack.path + (area.serial,) + path
        area = area.stack.area
    return (area.base.file, path)


def name_of(area, path):
    """The place to which a path within an area led in the project, None within a row that was put in."""
    if area.name is None:
        return None
    file, around = area.name
    return (file, around + path)


def row_name(row):
    """The (rows place, serial) by which a row of the project is named."""
    file, path = row.name
    return ((file, path[:-1]), row.serial)


def record_now(sources, area, base, path, with_rows):
    """The labelled record to which a path within an area leads, perhaps with no rows in it."""
    pairs = []
    for entry in base.body.entries:
        if entry.hidden:
            continue
        further = path + (entry.name,)
        if isinstance(entry.value, Record):
            value = record_now(sources, area, sources.inner(base, entry), further, with_rows)
        elif isinstance(entry.value, Loop):
            rows = area.stacks[further].rows if with_rows else []
            value = tuple([(row.serial, record_now(sources, row, row.base, (), True)) for row in rows])
        else:
            value = area.worths[further]
        pairs.append((entry.name, value))
    return tuple(pairs)
