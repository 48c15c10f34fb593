"""Working out values, and finding the places that there are."""

from sourceback.layers import first_told, pattern_of, reads_at
from sourceback.shapes import is_part
from sourceback.sources import reads_item
from sourceback.trees import Choice, Literal, Loop, Record, paths_of


class Reading:
    """The values of the places of a project, worked out when they are asked for.

    A file is that of a document, a path that of a place (or rows place) of it that is there.
    """

    def __init__(self, project):
        self.sources = project.sources
        self.stored = project
        self.told = {}

    def worth_at(self, file, path):
        """The value of a place."""
        # Not by recursion: a value may be read over hundreds of others.
        waiting = [path]
        while waiting:
            missing = [] if (file, waiting[-1]) in self.told else self.missing(file, waiting[-1])
            if missing:
                waiting += missing
                continue
            ready = waiting.pop()
            # What is read twice waits twice, but is worked out once.
            if (file, ready) not in self.told:
                self.told[(file, ready)] = self.reckoned(file, ready)
        return self.told[(file, path)]

    def telling(self, file, path):
        """The level that tells the value of a place."""
        return first_told(self.sources.layers[(file, pattern_of(path))])

    def missing(self, file, path):
        """The places without a value yet that must have one before this place can."""
        # Of a choice both sides are read, which leads into no circle: sources that let it are refused.
        level = self.telling(file, path)
        reads = reads_at(level, path, paths_of(level.value))
        return [read for read in reads if (file, read) not in self.told]

    def reckoned(self, file, path):
        """The value of a place, when all that it reads have one."""
        level = self.telling(file, path)
        value = level.value
        if isinstance(value, Choice):
            value = self.side(file, path, level)
        if isinstance(value, Literal):
            return value.worth
        if value.alone:
            return self.worth_read(file, path, level, value.terms[0].path)
        total = 0
        for term in value.terms:
            total += term.factor * (1 if term.path is None else self.worth_read(file, path, level, term.path))
        return total

    def side(self, file, path, level):
        """The side of a choice that is taken."""
        return level.value.sides[0 if self.is_same(file, path, level) else 1]

    def is_same(self, file, path, level):
        """Tell whether what a choice compares is equal to its literal, when it has a value."""
        return self.worth_read(file, path, level, level.value.path) == level.value.literal.worth

    def worth_read(self, file, path, level, read):
        """What a path reads at a level of a place."""
        if reads_item(level.loop, read):
            return self.item_worth(level.stock, path[level.home + 1], read.parts[1])
        return self.told[(file, path[:level.home] + read.parts)]

    def item_worth(self, stock, serial, field):
        """The literal of an item."""
        at = self.stored.serials(stock.file, stock.name).index(serial)
        return stock.goods[at].named[field].value.worth

    def loop_at(self, file, path):
        """The loop of a rows place, and its list."""
        base = self.sources.base_at(file, path[:-1])
        loop = base.body.named[path[-1]].value
        return loop, self.sources.known_stock(base.file, loop.stock.name)

    def shown_at(self, file, path):
        """The serials of the items that a loop shows at a rows place, in the order of the list."""
        loop, stock = self.loop_at(file, path)
        serials = self.stored.serials(stock.file, stock.name)
        if loop.where is None:
            return serials
        wanted = self.wanted_at(file, path, loop)
        field = loop.where.left.parts[1]
        return tuple([serial for serial in serials if self.item_worth(stock, serial, field) == wanted])

    def wanted_at(self, file, path, loop):
        """The value of the right side of the condition at a rows place."""
        right = loop.where.right
        return right.worth if isinstance(right, Literal) else self.worth_at(file, path[:-1] + right.parts)


class Found:
    """A place or rows place: whether it is one of rows, and whether it is hidden."""

    def __init__(self, file, path, is_rows, hidden):
        self.spelled = (file, path)
        self.is_rows = is_rows
        self.hidden = hidden


def all_found(reading):
    """All places and rows places of all documents."""
    sources = reading.sources
    found = []
    for file, tree in sources.trees.items():
        waiting = [] if tree.document is None else [((), tree.document, False)]
        while waiting:
            path, base, within = waiting.pop()
            for entry in base.body.entries:
                further = path + (entry.name,)
                hidden = within or entry.hidden
                if isinstance(entry.value, Record):
                    waiting.append((further, sources.inner(base, entry), hidden))
                    continue
                is_rows = isinstance(entry.value, Loop)
                found.append(Found(file, further, is_rows, hidden))
                if is_rows:
                    inner = sources.inner(base, entry)
                    waiting += [(further + (at,), inner, hidden) for at in reading.shown_at(file, further)]
    return found


def found_at(reading, value):
    """The place or rows place that any value is, or None."""
    if not is_spelled(reading.sources, value):
        return None
    file, path = value
    base = reading.sources.trees[file].document
    hidden = False
    at = 0
    while at < len(path):
        entry = base.body.named.get(path[at])
        if entry is None:
            return None
        hidden = hidden or entry.hidden
        at += 1
        if not isinstance(entry.value, Record):
            is_rows = isinstance(entry.value, Loop)
            if at == len(path):
                return Found(file, path, is_rows, hidden)
            if not is_rows or path[at] not in reading.shown_at(file, path[:at]):
                return None
            at += 1
        base = reading.sources.inner(base, entry)
    return None


def is_spelled(sources, value):
    """Tell whether any value is the file of a document and a tuple of strings and integers."""
    if not isinstance(value, tuple) or len(value) != 2:
        return False
    file, path = value
    if not isinstance(file, str) or file not in sources.trees or sources.trees[file].document is None:
        return False
    return isinstance(path, tuple) and all([is_part(part) for part in path])
