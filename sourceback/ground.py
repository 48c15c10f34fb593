"""What a wish asks of the sources: the places that there will be, how each is told, and the demands.

A key is a place, (file, path), or the spot of an item's field, (file, list, (serial, field)).
"""

from sourceback.layers import is_expression, pattern_of
from sourceback.sources import reads_item
from sourceback.spots import Spots, value_at
from sourceback.trees import Choice, Literal, Loop, Record

# The most visible places, rows places, loose spots and ways for which an edit is led back.
BOUNDS = {"places": 60, "rows": 20, "spots": 30, "ways": 8}


class Node:
    """A place or a field of an item: its kind, and its rungs, of which a field of a new item has none."""

    def __init__(self, kind, rungs):
        self.kind = kind
        self.rungs = rungs

    def reads(self):
        """The keys that may be read for the value."""
        return [key for rung in self.rungs for simple in rung.simples for key in simple_keys(simple)]


class Rung:
    """A level of a place, no deeper than its outermost expression, or the spot of a field.

    simples tell the value: none without a definition, two for a choice that may go both ways, with
    the (key, literal) that it compares as its way. Of a number a simple is (terms, constant), each term
    being (factor, key); of a text it is a string or a key.
    """

    def __init__(self, spot, free, simples, way):
        self.spot = spot
        self.free = free
        self.simples = simples
        self.way = way


class Demand:
    """Two sides, each a key or a literal, that are to be equal, or not."""

    def __init__(self, kind, equal, left, right):
        self.kind = kind
        self.equal = equal
        self.left = left
        self.right = right

    def keys_of(self):
        """The keys of the sides."""
        return [side for side in (self.left, self.right) if isinstance(side, tuple)]


class Ground:
    """The nodes of a wish by their keys, its demands by their names, and the ways of choices.

    ways has each (key, literal) that a choice compares if the wish does not tell the way.
    """

    def __init__(self, wish):
        self.asked = wish
        self.sources = wish.sources
        self.spots = Spots(wish.stored, wish.locked)
        self.nodes = {}
        self.ways = {}
        for stock in wish.standings:
            self.add_fields(stock)
        for file in wish.stored.documents:
            self.add_places(file)
        self.demands = {}
        self.add_demands()
        self.loose = self.loose_spots()

    def add_fields(self, stock):
        """Add the fields of the items of a list that stay or come."""
        file, name = stock
        items = self.asked.standings[stock]
        for serial in items.staying + items.arriving:
            for field, kind in self.sources.known_stock(file, name).kinds().items():
                spot = (file, name, (serial, field))
                self.nodes[spot] = Node(kind, [] if serial in items.arriving else [self.field_rung(spot, kind)])

    def field_rung(self, spot, kind):
        """The rung of a field of an item that stays."""
        worth = value_at(self.asked.stored, spot).worth
        return Rung(spot, self.spots.is_open(spot), [literal_simple(kind, worth)], None)

    def add_places(self, file):
        """Add the places of a document, in the rows of the wish; in hidden rows nothing is wished."""
        waiting = [((), self.sources.trees[file].document)]
        while waiting:
            path, base = waiting.pop()
            for entry in base.body.entries:
                further = path + (entry.name,)
                if isinstance(entry.value, Record):
                    waiting.append((further, self.sources.inner(base, entry)))
                elif isinstance(entry.value, Loop):
                    inner = self.sources.inner(base, entry)
                    serials = self.asked.rows.get((file, further), ())
                    waiting += [(further + (serial,), inner) for serial in serials]
                else:
                    self.add_place(file, further)

    def add_place(self, file, path):
        """Add a place."""
        levels = self.sources.layers[(file, pattern_of(path))]
        kind = self.spots.kind_at(levels[-1].spot)
        rungs = []
        shut = False
        for level in levels:
            rung = self.rung(kind, file, path, level)
            if not shut:
                rungs.append(rung)
            # Behind a definition that always stays nothing is read, but the choice there counts for the ways.
            shut = shut or (not rung.free and rung.simples != [])
            if is_expression(level.value):
                break
        self.nodes[(file, path)] = Node(kind, rungs)

    def rung(self, kind, file, path, level):
        """The rung of a level of a place."""
        value = level.value
        free = self.spots.is_open(level.spot)
        if value is None:
            return Rung(level.spot, free, [], None)
        if not isinstance(value, Choice):
            return Rung(level.spot, free, [self.simple(kind, file, path, level, value)], None)
        simples = [self.simple(kind, file, path, level, side) for side in value.sides]
        key = self.key_read(file, path, level, value.path)
        if key in self.asked.worths:
            equal = self.asked.worths[key] == value.literal.worth
            return Rung(level.spot, free, simples[:1] if equal else simples[1:], None)
        self.ways[(key, value.literal.worth)] = True
        return Rung(level.spot, free, simples, (key, value.literal.worth))

    def simple(self, kind, file, path, level, value):
        """A literal or a sum at a level of a place."""
        if isinstance(value, Literal):
            return literal_simple(kind, value.worth)
        if kind == "text":
            return self.key_read(file, path, level, value.terms[0].path)
        read = [term for term in value.terms if term.path is not None]
        terms = [(term.factor, self.key_read(file, path, level, term.path)) for term in read]
        return (tuple(terms), sum([term.factor for term in value.terms if term.path is None]))

    def key_read(self, file, path, level, read):
        """The key of what a path reads at a level of a place."""
        if reads_item(level.loop, read):
            return (level.stock.file, level.stock.name, (path[level.home + 1], read.parts[1]))
        return (file, path[:level.home] + read.parts)

    def add_demands(self):
        """Add a demand for each value, and for each item at a loop with a condition."""
        for place, worth in self.asked.worths.items():
            self.demands[("value", place)] = Demand(self.nodes[place].kind, True, place, worth)
        for place in self.asked.rows:
            file, path = place
            loop, stock = self.asked.reading.loop_at(file, path)
            if loop.where is not None:
                self.add_shown(place, loop.where, (stock.file, stock.name))

    def add_shown(self, place, where, stock):
        """Add a demand for each item at a loop with a condition."""
        file, path = place
        side = where.right.worth if isinstance(where.right, Literal) else (file, path[:-1] + where.right.parts)
        items = self.asked.standings[stock]
        for serial in items.staying + items.arriving:
            left = stock + ((serial, where.left.parts[1]),)
            equal = serial in self.asked.rows[place]
            self.demands[("shown", place, serial)] = Demand(self.nodes[left].kind, equal, left, side)

    def loose_spots(self):
        """The open spots that are levels of places, as if each list had items, or fields of items that stay."""
        found = {}
        for levels in self.sources.layers.values():
            for level in levels:
                if self.spots.is_open(level.spot):
                    found[level.spot] = True
        for key, node in self.nodes.items():
            if len(key) == 3 and node.rungs and node.rungs[0].free:
                found[key] = True
        return found

    def lost_spots(self):
        """The fields of items that go, about which no selection needs to tell anything."""
        found = []
        for (file, name), items in self.asked.standings.items():
            fields = list(self.sources.known_stock(file, name).kinds())
            found += [(file, name, (serial, field)) for serial in items.leaving for field in fields]
        return found

    def excess(self):
        """The word of the first bound that is exceeded, or None."""
        sizes = {
            "places": len(self.asked.worths), "rows": len(self.asked.rows),
            "spots": len(self.loose), "ways": len(self.ways),
        }
        beyond = [word for word in BOUNDS if sizes[word] > BOUNDS[word]]
        return beyond[0] if beyond else None

    def ties(self, demand):
        """What may be set, gone, unknown or decided where a demand is told: spots and ways."""
        found = {}
        waiting = demand.keys_of()
        met = {}
        while waiting:
            key = waiting.pop()
            if key not in met:
                met[key] = True
                node = self.nodes[key]
                waiting += node.reads()
                if not node.rungs:
                    found[key] = True
                for rung in node.rungs:
                    if rung.free:
                        found[rung.spot] = True
                    if rung.way is not None:
                        found[rung.way] = True
                        waiting.append(rung.way[0])
        return list(found)

    def way_demand(self, key, literal, equal):
        """The demand of a way that is decided."""
        return Demand(self.nodes[key].kind, equal, key, literal)


def literal_simple(kind, worth):
    """The simple of a literal."""
    return ((), worth) if kind == "number" else worth


def simple_keys(simple):
    """The keys that a simple reads."""
    if isinstance(simple, str):
        return []
    # A key begins with a string, the simple of a number with a tuple.
    return [simple] if isinstance(simple[0], str) else [key for _, key in simple[0]]
