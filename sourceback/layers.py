"""The levels of places, and what is defined at a spot.

A pattern is the path of a place with "*" for each serial.
"""

from sourceback.sources import reads_item
from sourceback.trees import Choice, Loop, Record, Sum


class Level:
    """A spot at which a place is told.

    home is the number of parts of the place's path that lead to the record at which paths begin;
    loop and stock are those of the item that is read there, or None; value is the definition.
    """

    def __init__(self, owner, path, home, shows):
        self.spot = (owner.file, owner.name, path)
        self.home = home
        self.loop, self.stock = shows
        self.value = defined(owner, path)


def defined(owner, path):
    """The literal, sum or choice that an owner gives at a path, or None."""
    body = owner.body
    value = None
    for part in path:
        if part != "*":
            entry = None if body is None else body.named.get(part)
            if entry is None:
                return None
            value = entry.value
            body = value.body if isinstance(value, (Record, Loop)) else value
    return value


def says(owner, path):
    """Tell whether an owner can say something about a path: only of rows of loops of its own."""
    starred = [at for at, part in enumerate(path) if part == "*"]
    return starred == [] or (starred == [1] and owner.parent is None)


def patterns(sources, file):
    """The patterns of all places of a document, as if each list had items."""
    found = []
    waiting = [((), sources.trees[file].document)]
    while waiting:
        path, base = waiting.pop()
        for entry in base.body.entries:
            further = path + (entry.name,)
            if isinstance(entry.value, Record):
                waiting.append((further, sources.inner(base, entry)))
            elif isinstance(entry.value, Loop):
                waiting.append((further + ("*",), sources.inner(base, entry)))
            else:
                found.append(further)
    return found


def pattern_of(path):
    """The pattern of the path of a place."""
    return tuple(["*" if isinstance(part, int) else part for part in path])


def levels_of(sources, file, pattern):
    """The levels of the places with this pattern, the outermost one first."""
    return levels_from(sources, sources.trees[file].document, pattern)


def levels_from(sources, owner, pattern):
    """The levels of that to which a path leads from an owner, the outermost one first."""
    found = []
    home = 0
    while True:
        path = pattern[home:]
        if says(owner, path):
            found.append(level_at(sources, owner, path, home))
        if owner.parent is not None:
            owner = sources.parent_of(owner)
        elif len(path) == 1:
            return found
        else:
            owner = sources.used(owner, owner.body.named[path[0]])
            home += 2 if path[1] == "*" else 1


def level_at(sources, owner, path, home):
    """A level; a path that leads through rows stands in the loop of its first field."""
    if "*" not in path:
        return Level(owner, path, home, (None, None))
    loop = owner.body.named[path[0]].value
    return Level(owner, path, home, (loop, sources.known_stock(owner.file, loop.stock.name)))


def first_told(levels):
    """The first level with a definition. The last one always has one."""
    return [level for level in levels if level.value is not None][0]


def first_expressed(levels):
    """The first level with an expression, or None."""
    found = [level for level in levels if is_expression(level.value)]
    return found[0] if found else None


def is_expression(value):
    """Tell whether a definition, or None, is a sum or choice."""
    return isinstance(value, (Sum, Choice))


def reads_at(level, path, paths):
    """The paths of the places to which paths at this level lead, for the place with this path."""
    return [path[:level.home] + read.parts for read in paths if not reads_item(level.loop, read)]
