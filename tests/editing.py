"""A second way to make and to merge edits, with dicts by places that are written anew for each row carried.

The projects have their visible fields told by hand: a record is a list of (field, kind), a kind is
"number", "text", a record, or Rows. It shares nothing with the package but labelled outputs.
"""

from helping import project
from randomly import sound
from sourceback.values import labelled


class Rows:
    def __init__(self, items, template, record):
        self.items, self.template, self.record = items, template, record


class Ground:
    """A project with its visible fields, and for each list the serials and the next one."""

    def __init__(self, made, documents, lists):
        self.project = made
        self.documents = documents
        self.serials = {key: self.project.serials(*key) for key in lists}
        self.nexts = {key: self.project.next_serial(*key) for key in lists}
        self.records = {file: labelled(self.project, file) for file in documents}


PEOPLE = """
list people (name: text) [ { name: "Ann" } { name: "Bob" } ]
list tasks (title: text, owner: text) [ { title: "a" owner: "Ann" } { title: "b" owner: "Bob" } { title: "c" owner: "Ann" } ]
template card { title: "" }
template person { name: "" cards: for t in tasks where t.owner = name give card { title: t.title } }
document { people: for p in people give person { name: p.name } }
"""

LIB = """
list teams (label: text) [ { label: "x" } { label: "y" } { label: "z" } ]
list people (name: text, team: text, age: number) [
    { name: "Ann" team: "x" age: 3 } { name: "Bob" team: "x" age: 4 } { name: "Cy" team: "y" age: 5 }
    { name: "Di" team: "none" age: 6 } { name: "Ed" team: "y" age: 7 } ]
list tasks (title: text, owner: text, cost: number) [
    { title: "a" owner: "Ann" cost: 1 } { title: "b" owner: "Bob" cost: 2 } { title: "c" owner: "Ann" cost: 3 }
    { title: "d" owner: "Cy" cost: 4 } { title: "e" owner: "Ann" cost: 5 } { title: "f" owner: "" cost: 6 } ]
template note { words: "n" let secret: 4 weight: 1 }
template card { title: "" cost: 0 note: new note { weight: 2 } }
template wide = card { cost: 5 }
template person {
    name: "" let key: name age: 1
    cards: for t in tasks where t.owner = key give card { title: t.title cost: t.cost }
    wides: for t in tasks where t.owner = key give wide { title: t.title }
}
template team { label: "" people: for p in people where p.team = label give person { name: p.name age: p.age } tag: new note }
"""
MAIN = """
import lib
document {
    teams: for t in teams give team { label: t.label }
    all: for t in tasks give card { title: t.title }
    loose: for p in people where p.team = "none" give person { name: p.name }
    let veil: new team { label: "x" }
    sum: 2 * veil.tag.weight
}
"""
OTHER = """
import lib
document { free: for t in tasks where t.owner = "" give card { title: t.title } box: new person { name: "Bob" } last: new note }
"""

NOTE = [("words", "text"), ("weight", "number")]
CARD = [("title", "text"), ("cost", "number"), ("note", NOTE)]
TASKS = ("lib", "tasks")
PERSON = [("name", "text"), ("age", "number"), ("cards", Rows(TASKS, "card", CARD)), ("wides", Rows(TASKS, "wide", CARD))]
PERSONS = Rows(("lib", "people"), "person", PERSON)
TEAM = [("label", "text"), ("people", PERSONS), ("tag", NOTE)]
ROOMS = """
list rooms (n: number) [ { n: 0 } { n: 1 } { n: 2 } ]
list things (n: number, k: number) [ { n: 0 k: 0 } { n: 1 k: 0 } { n: 0 k: 1 } { n: 1 k: 1 } { n: 0 k: 0 } { n: 7 k: 0 } { n: 0 k: 0 } ]
template part { k: 0 }
template thing { let key: 0 parts: for t in things where t.k = key give part { k: t.k } n: 0 }
template room { n: 0 key: n things: for t in things where t.n = n give thing { n: t.n } }
document { rooms: for r in rooms give room { n: r.n } others: for t in things where t.n = 7 give thing }
"""
PART = [("k", "number")]
THING = [("parts", Rows(("main", "things"), "part", PART)), ("n", "number")]
THINGS = Rows(("main", "things"), "thing", THING)
ROOM = [("n", "number"), ("key", "number"), ("things", THINGS)]

GROUNDS = [
    Ground(project(PEOPLE), {"main": [("people", Rows(("main", "people"), "person", [
        ("name", "text"), ("cards", Rows(("main", "tasks"), "card", [("title", "text")]))]))]},
        [("main", "people"), ("main", "tasks")]),
    Ground(project(lib=LIB, main=MAIN, other=OTHER), {
        "main": [("teams", Rows(("lib", "teams"), "team", TEAM)), ("all", Rows(TASKS, "card", CARD)), ("loose", PERSONS),
                 ("sum", "number")],
        "other": [("free", Rows(TASKS, "card", CARD)), ("box", PERSON), ("last", NOTE)]},
        [("lib", "teams"), ("lib", "people"), TASKS]),
    Ground(project(ROOMS), {"main": [("rooms", Rows(("main", "rooms"), "room", ROOM)), ("others", THINGS)]},
           [("main", "rooms"), ("main", "things")]),
]


def world_grounds():
    """Those of the worlds by chance that have rows and not too many places."""
    found = []
    for world, made, result in sound().worlds:
        if result.rows and len(result.layers) <= 120:
            documents = {file: visible(world, owner) for file, owner in world.documents.items()}
            if any(documents.values()):
                found.append(Ground(made, documents, list(world.lists)))
    return found


def visible(world, owner):
    """The visible fields of a document or template of a world."""
    found = []
    for name, entry in world.base(owner)["fields"].items():
        value = entry["value"]
        if not entry["hidden"]:
            if value["form"] in ("new", "loop"):
                kind = visible(world, world.templates[value["template"]])
                kind = Rows(value["list"], value["template"], kind) if value["form"] == "loop" else kind
            found.append((name, kind if value["form"] in ("new", "loop") else value["kind"]))
    return found


def good_string(value):
    return len(value) <= 60 and all(" " <= sign <= "~" and sign not in '"\\' for sign in value)


def good_record(record, value):
    if not isinstance(value, tuple) or [pair[0] for pair in value] != [name for name, _ in record]:
        return False
    return all(good_value(kind, part) for (_, kind), (_, part) in zip(record, value))


def good_value(kind, value):
    if kind == "number":
        return isinstance(value, int)
    if kind == "text":
        return isinstance(value, str) and good_string(value)
    if isinstance(kind, list):
        return good_record(kind, value)
    return isinstance(value, tuple) and all(
        isinstance(pair[0], int) and good_record(kind.record, pair[1]) for pair in value)


class Flat:
    """What an edit leaves: dicts by places as they are now.

    names has for each row now there the (rows place, serial) at which it stood, None for one that was
    put in; records those of rows that were put in one behind the other, as (list, serial).
    """

    def __init__(self, ground):
        self.ground = ground
        self.values, self.rows, self.kinds, self.names = {}, {}, {}, {}
        self.gone, self.fresh = set(), set()
        self.nexts = dict(ground.nexts)
        for file, record in ground.documents.items():
            self.spread(record, ground.records[file], file, (), False)
        self.start = {place: tuple(serials) for place, serials in self.rows.items()}
        self.first = dict(self.values)

    def spread(self, record, value, file, path, put):
        for (name, kind), (_, part) in zip(record, value):
            further = path + (name,)
            if isinstance(kind, Rows):
                self.rows[(file, further)] = [serial for serial, _ in part]
                self.kinds[(file, further)] = kind
                for serial, inner in part:
                    self.names[(file, further + (serial,))] = None if put else ((file, further), serial)
                    self.spread(kind.record, inner, file, further + (serial,), put)
            elif isinstance(kind, list):
                self.spread(kind, part, file, further, put)
            else:
                self.values[(file, further)] = part
                self.kinds[(file, further)] = kind
                if put:
                    self.fresh.add((file, further))

    def make(self, step):
        """Make a step, or return the word."""
        return getattr(self, step[0])(*step[1:])

    def set(self, place, value):
        if place not in self.values:
            return "place"
        if not good_value(self.kinds[place], value):
            return "kind"
        if place in self.fresh:
            return "twice"
        self.values[place] = value
        self.fresh.add(place)

    def take(self, place, serial):
        if place not in self.rows:
            return "place"
        row = below(place, serial)
        if serial not in self.rows[place] or any(inside(other, row) and name is None for other, name in self.names.items()):
            return "serial"
        self.move(row, None)
        self.rows[place].remove(serial)
        self.gone.add((place, serial))

    def put(self, place, index, serial, record):
        if place not in self.rows:
            return "place"
        kind = self.kinds[place]
        if not good_record(kind.record, record):
            return "kind"
        if serial in self.rows[place] or (place, serial) in self.gone or not self.counts(kind, [(serial, record)]):
            return "serial"
        if index > len(self.rows[place]):
            return "index"
        self.rows[place].insert(index, serial)
        self.names[below(place, serial)] = None
        self.spread(kind.record, record, place[0], place[1] + (serial,), True)

    def counts(self, kind, rows):
        if len({serial for serial, _ in rows}) < len(rows):
            return False
        for serial, record in rows:
            new = self.nexts[kind.items]
            if serial == new:
                self.nexts[kind.items] += 1
            elif serial > new or (serial < self.ground.nexts[kind.items] and serial not in self.ground.serials[kind.items]):
                return False
            if not self.counts_within(kind.record, record):
                return False
        return True

    def counts_within(self, record, value):
        for (_, kind), (_, part) in zip(record, value):
            if isinstance(kind, Rows) and not self.counts(kind, part):
                return False
            if isinstance(kind, list) and not self.counts_within(kind, part):
                return False
        return True

    def carry(self, place, serial, other, index):
        if place not in self.rows or other not in self.rows:
            return "place"
        row = below(place, serial)
        if serial in self.rows[place] and inside(other, row):
            return "place"
        one, two = self.kinds[place], self.kinds[other]
        if (one.items, one.template) != (two.items, two.template):
            return "rows"
        if serial not in self.rows[place] or self.names[row] is None:
            return "serial"
        if place != other and (serial in self.rows[other] or (other, serial) in self.gone):
            return "serial"
        if index > len(self.rows[other]) - (place == other):
            return "index"
        self.rows[place].remove(serial)
        self.rows[other].insert(index, serial)
        if place != other:
            self.gone.add((place, serial))
            self.move(row, below(other, serial))

    def move(self, old, new):
        """Write all dicts anew: what was within one row is within another one, or gone (None)."""
        for name in ("values", "rows", "kinds", "names"):
            setattr(self, name, {moved(place, old, new): value for place, value in getattr(self, name).items()
                                 if new or not inside(place, old)})
        self.fresh = {moved(place, old, new) for place in self.fresh if new or not inside(place, old)}
        self.gone = {(moved(place, old, new), serial) for place, serial in self.gone if new or not inside(place, old)}

    def wish(self):
        rows = {place: tuple(serials) for place, serials in self.rows.items()}
        return tuple(sorted(self.values.items())), tuple(sorted(rows.items()))

    # Names

    def name(self, place):
        """The name of a value or rows place, None for one within a row that was put in."""
        file, path = place
        for at in range(len(path) - 1, -1, -1):
            if isinstance(path[at], int):
                name = self.names[(file, path[:at + 1])]
                if name is None:
                    return None
                (first, around), serial = name
                return (first, around + (serial,) + path[at + 1:])
        return place

    def named_values(self):
        return {self.name(place): value for place, value in self.values.items() if self.name(place)}

    def named_rows(self):
        return {self.name(place): (place, tuple(serials)) for place, serials in self.rows.items() if self.name(place)}

    def fates(self):
        """The fates of the rows of the project that have one."""
        now = {name: row for row, name in self.names.items() if name}
        found = {}
        for place, serials in self.start.items():
            for serial in serials:
                if (place, serial) in now:
                    file, path = now[(place, serial)]
                    where = self.name((file, path[:-1]))
                    found[(place, serial)] = ("stays",) if where == place else ("carried", where)
                elif all(row in now for row in around(place)):
                    found[(place, serial)] = ("taken",)
        return found

    def changes(self):
        found = [("row", place, serial) for (place, serial), fate in self.fates().items() if fate != ("stays",)]
        found += [("rows", name) for name, (_, serials) in self.named_rows().items() if serials != self.start[name]]
        found += [("value", name) for name, value in self.named_values().items() if value != self.first[name]]
        return tuple(sorted(found))


def below(place, serial):
    return (place[0], place[1] + (serial,))


def inside(place, row):
    return place[0] == row[0] and place[1][:len(row[1])] == row[1]


def moved(place, old, new):
    return (new[0], new[1] + place[1][len(old[1]):]) if inside(place, old) else place


def around(place):
    return [((place[0], place[1][:at]), part) for at, part in enumerate(place[1]) if isinstance(part, int)]


class Both:
    """Two edits of one ground: their clashes, and what they wish together."""

    def __init__(self, ground, one, other):
        self.ground, self.one, self.other = ground, one, other
        self.fates = (one.fates(), other.fates())
        self.rows = (one.named_rows(), other.named_rows())
        self.texts = (one.named_values(), other.named_values())
        self.kinds = Flat(ground).kinds

    def clashes(self):
        return [(c, d) for c in self.one.changes() for d in self.other.changes() if self.clash(c, d)]

    def clash(self, c, d):
        for side, (taken, within) in enumerate(((c, d), (d, c))):
            if taken[0] == "row" and self.fates[side][taken[1:]] == ("taken",) and taken[1:] in around(within[1]):
                return True
        if c != d:
            return False
        if c[0] == "value":
            return self.texts[0][c[1]] != self.texts[1][c[1]]
        if c[0] == "row":
            fates = [fates[c[1:]] for fates in self.fates]
            return fates[0] != fates[1] or fates[0] == ("carried", None)
        return self.rows_clash(c[1]) and not self.same(c[1])

    def rows_clash(self, name):
        came = []
        for rows in self.rows:
            first, now = self.one.start[name], rows[name][1]
            if [s for s in first if s in now] != [s for s in now if s in first]:
                return True
            came.append({s for s in now if s not in first and not self.is_new(name, s)})
        return bool(came[0] & came[1])

    def is_new(self, name, serial):
        return serial >= self.ground.nexts[self.kinds[name].items]

    def same(self, name):
        """Whether both wish the same tuple without a new item, of the same rows."""
        return self.seen(self.one, self.rows[0][name][0]) == self.seen(self.other, self.rows[1][name][0]) is not None

    def seen(self, flat, place):
        """What is to be the same of rows: names, and of rows that were put in all that is in them; None for new items."""
        found = []
        for serial in flat.rows[place]:
            if serial >= self.ground.nexts[flat.kinds[place].items]:
                return None
            row = below(place, serial)
            if flat.names[row]:
                found.append((serial, flat.names[row]))
                continue
            inner = [(p[1][len(row[1]):], v) for p, v in flat.values.items()
                     if inside(p, row) and len(around(p)) == len(around(row))]
            rows = [(p[1][len(row[1]):], self.seen(flat, p)) for p in flat.rows
                    if inside(p, row) and len(around(p)) == len(around(row))]
            if any(part is None for _, part in rows):
                return None
            found.append((serial, tuple(sorted(inner)), tuple(sorted(rows, key=repr))))
        return tuple(found)

    def wish(self):
        self.values, self.lists = {}, {}
        for file, record in self.ground.documents.items():
            self.named(record, (file, ()), (file, ()))
        return tuple(sorted(self.values.items())), tuple(sorted(self.lists.items()))

    def named(self, record, name, now):
        """Lay out a named row (or document) that is now there."""
        for field, kind in record:
            far, here = below(name, field), below(now, field)
            if isinstance(kind, Rows):
                self.lay(kind, self.woven(far), here)
            elif isinstance(kind, list):
                self.named(kind, far, here)
            else:
                one, other = self.texts[0][far], self.texts[1][far]
                self.values[here] = other if one == self.one.first[far] else one

    def put(self, record, flat, then, now):
        """Lay out a row that one of both put in, from where it is there."""
        for field, kind in record:
            far, here = below(then, field), below(now, field)
            if isinstance(kind, Rows):
                self.lay(kind, [(flat, far, serial) for serial in flat.rows[far]], here)
            elif isinstance(kind, list):
                self.put(kind, flat, far, here)
            else:
                self.values[here] = flat.values[far]

    def lay(self, kind, rows, here):
        serials = []
        for flat, place, serial in rows:
            new = serial
            if flat is self.other and serial >= self.ground.nexts[kind.items]:
                new += self.one.nexts[kind.items] - self.ground.nexts[kind.items]
            serials.append(new)
            name = flat.names[below(place, serial)]
            if name:
                self.named(kind.record, below(*name), below(here, new))
            else:
                self.put(kind.record, flat, below(place, serial), below(here, new))
        self.lists[here] = tuple(serials)

    def woven(self, name):
        """The rows at a named rows place as (side, its place there, serial)."""
        first = self.one.start[name]
        sides = [(flat, rows[name][0], rows[name][1]) for flat, rows in zip((self.one, self.other), self.rows)]
        changed = [side for side in sides if side[2] != first]
        if len(changed) < 2 or self.same(name):
            flat, place, serials = (changed or sides)[0]
            return [(flat, place, serial) for serial in serials]
        found = []
        for gap in (None,) + first:
            if gap is not None and all(gap in serials for _, _, serials in sides):
                found.append((sides[0][0], sides[0][1], gap))
            for flat, place, serials in sides:
                last = None
                for serial in serials:
                    if serial in first:
                        last = serial
                    elif last == gap:
                        found.append((flat, place, serial))
        return found


class Chance:
    """Steps by chance, most of which can be made."""

    def __init__(self, chance, flat):
        self.chance, self.flat = chance, flat

    def pick(self, values):
        values = list(values)
        return self.chance.choice(values) if values else None

    def place(self, places):
        found = self.pick(places)
        if found is None or self.chance.random() < 0.03:
            return self.pick(list(self.flat.values) + list(self.flat.rows) + [("main", ("nothing",)), ("none", ("a",)), ("main", ()),
                                                                             ("main", ("veil", "people")), ("main", ("sum", 0))])
        return found

    def number(self, limit):
        if self.chance.random() < 0.04:
            return limit + self.chance.randrange(1, 3)
        return self.chance.randrange(limit + 1)

    def worth(self, kind):
        if self.chance.random() < 0.03:
            kind = self.pick(("number", "text", "bad"))
        if kind == "bad":
            return self.pick(('"', "\\", "\n", "x" * 61, "\x7f"))
        return self.pick((-1, 0, 1, 2, 3)) if kind == "number" else self.pick(("", "a", "b", "Ann", "x" * 60))

    def serial(self, items, new):
        what = self.chance.random()
        if what < 0.35:
            new[items] = new.get(items, self.flat.nexts[items]) + 1
            return new[items] - 1
        if what < 0.4:
            return self.flat.nexts[items] + self.chance.randrange(3)
        return self.chance.randrange(self.flat.ground.nexts[items] + 1)

    def record(self, record, new):
        found = []
        for name, kind in record:
            if isinstance(kind, Rows):
                rows = []
                for _ in range(self.pick((0, 0, 0, 1, 1, 2))):
                    serial = self.serial(kind.items, new)
                    if serial not in [s for s, _ in rows] or self.chance.random() < 0.05:
                        rows.append((serial, self.record(kind.record, new)))
                part = tuple(rows)
            else:
                part = self.record(kind, new) if isinstance(kind, list) else self.worth(kind)
            found.append((name, part))
        if found and self.chance.random() < 0.01:
            found.pop(self.chance.randrange(len(found)))
        return tuple(found)

    def step(self):
        flat, word = self.flat, self.pick(("set", "set", "take", "put", "put", "carry", "carry", "carry", "carry"))
        if word == "set":
            place = self.place([p for p in flat.values if p not in flat.fresh or self.chance.random() < 0.1])
            return ("set", place, self.worth(flat.kinds.get(place, "number") if place in flat.values else "number"))
        free = [p for p in flat.rows if flat.rows[p] or word == "put"]
        if word != "put" and self.chance.random() < 0.95:
            free = [p for p in free if any(flat.names[below(p, s)] for s in flat.rows[p])]
        place = self.place(free)
        if place not in flat.rows:
            return ("put", place, 0, 0, ()) if word == "put" else ("take", place, 0)
        kind, serials = flat.kinds[place], flat.rows[place]
        if word == "put":
            new = {}
            free = [s for s in range(flat.ground.nexts[kind.items]) if s not in serials and (place, s) not in flat.gone]
            serial = self.pick(free) if free and self.chance.random() < 0.6 else self.serial(kind.items, new)
            return ("put", place, self.number(len(serials)), serial, self.record(kind.record, new))
        if self.chance.random() < 0.95:
            serials = [s for s in serials if flat.names[below(place, s)]] or serials
        serial = self.pick(serials) if serials and self.chance.random() < 0.97 else self.chance.randrange(8)
        if word == "take":
            return ("take", place, serial)
        alike = [p for p in flat.rows if flat.kinds[p].items == kind.items and flat.kinds[p].template == kind.template]
        if self.chance.random() < 0.9:
            alike = [p for p in alike if p == place or (serial not in flat.rows[p] and (p, serial) not in flat.gone)]
        other = self.place(alike)
        count = len(flat.rows.get(other, ())) - (other == place)
        return ("carry", place, serial, other, self.number(max(count, 0)))


def edit_by_chance(chance, ground, most, begin=()):
    """An edit, the Flat that it leaves, and (index, word) of the step that cannot be made, or None.

    It begins with steps that can be made.
    """
    flat, steps = Flat(ground), list(begin)
    for step in begin:
        assert flat.make(step) is None
    for index in range(len(steps), len(steps) + chance.randrange(most + 1)):
        step = Chance(chance, flat).step()
        steps.append(step)
        word = flat.make(step)
        if word:
            return tuple(steps), flat, (index, word)
    return tuple(steps), flat, None


def sound_edit(chance, ground, most, begin=()):
    """An edit that can be made, and the Flat that it leaves."""
    while True:
        edit, flat, fault = edit_by_chance(chance, ground, most, begin)
        if fault is None:
            return edit, flat


def pair_by_chance(chance, ground):
    """Two edits with the Flats that they leave, some of them with steps that are the same in both."""
    one = sound_edit(chance, ground, 5)
    shared = chance.randrange(len(one[0]) + 1) if chance.random() < 0.5 else 0
    return one, sound_edit(chance, ground, 5, one[0][:shared])
