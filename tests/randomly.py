"""Projects by chance, and a second way to work them out.

A World makes templates, lists and documents as plain data, writes them as files, and tells the
levels and values of all places by layers: what the bodies around a record say of it, the outermost
first. It shares nothing with the package.
"""

import random

from sourceback.errors import SourceError
from sourceback.projects import Project

MANY = 700
NAMES = [a + b for a in "bcdfghklmnpqrst" for b in "aeiou"]


class World:
    def __init__(self, chance):
        self.chance = chance
        self.names = list(NAMES)
        chance.shuffle(self.names)
        self.templates = {}
        self.lists = {}
        self.files = {}
        self.documents = {}
        earlier = []
        for file in ("zeta", "main", "alfa")[:chance.randrange(1, 4)]:
            self.make_file(file, list(earlier))
            earlier.append(file)

    # Making

    def make_file(self, file, earlier):
        imports = [name for name in earlier if self.chance.random() < 0.8]
        self.files[file] = {"imports": imports, "order": []}
        for _ in range(self.chance.randrange(0, 3)):
            self.make_list(file)
        for _ in range(self.chance.randrange(1, 5)):
            self.make_template(file)
        if self.chance.random() < 0.8 or file == "main":
            self.documents[file] = {"file": file, "name": "", "parent": None, "fields": {}}
            self.declare(self.documents[file], self.chance.randrange(1, 6))

    def known(self, table, file):
        near = [file] + self.files[file]["imports"]
        return [key for key in table if key[0] in near]

    def make_list(self, file):
        name = self.names.pop()
        columns = {self.names.pop(): self.chance.choice(("number", "text")) for _ in range(self.chance.randrange(1, 3))}
        items = [{column: self.literal(kind) for column, kind in columns.items()}
                 for _ in range(self.chance.randrange(0, 4))]
        self.lists[(file, name)] = {"columns": columns, "items": items}
        self.files[file]["order"].append(("list", name))

    def literal(self, kind):
        return self.chance.randrange(-1, 3) if kind == "number" else self.chance.choice(("", "a", "b c"))

    def make_template(self, file):
        name = self.names.pop()
        template = {"file": file, "name": name, "parent": None, "fields": {}}
        before = self.known(self.templates, file)
        if before and self.chance.random() < 0.4:
            template["parent"] = self.chance.choice(before)
            base = self.base(self.templates[template["parent"]])
            template["fields"] = self.override(base, base, None)
        else:
            self.declare(template, self.chance.randrange(1, 5))
        self.templates[(file, name)] = template
        self.files[file]["order"].append(("template", name))

    def base(self, owner):
        while owner["parent"] is not None:
            owner = self.templates[owner["parent"]]
        return owner

    def declare(self, owner, count):
        file = owner["file"]
        templates, lists = self.known(self.templates, file), self.known(self.lists, file)
        later = []
        for _ in range(count):
            name, what = self.names.pop(), self.chance.random()
            hidden = self.chance.random() < 0.25
            if what < 0.3 and templates:
                value = {"form": "new", "template": self.chance.choice(templates), "body": None}
                later.append(value)
            elif what < 0.5 and templates and lists:
                value = {"form": "loop", "var": self.names.pop(), "list": self.chance.choice(lists),
                         "template": self.chance.choice(templates), "body": None, "where": None}
                hidden = False
                later.append(value)
            else:
                kind = self.chance.choice(("number", "number", "text"))
                value = self.simple_or_choice(owner, kind, None)
            owner["fields"][name] = {"hidden": hidden, "value": value}
        for value in later:
            self.fill_in(owner, value)

    def fill_in(self, owner, value):
        loop = value if value["form"] == "loop" else None
        if loop and self.chance.random() < 0.5:
            columns = self.lists[loop["list"]]["columns"]
            column = self.chance.choice(list(columns))
            paths = self.paths(owner, columns[column])
            right = self.chance.choice(paths) if paths and self.chance.random() < 0.6 else None
            loop["where"] = (column, right if right else self.literal(columns[column]))
        if self.chance.random() < 0.6:
            value["body"] = self.override(self.base(self.templates[value["template"]]), owner, loop)

    def override(self, base, home, loop):
        body = {}
        for name, entry in base["fields"].items():
            form = entry["value"]["form"]
            if form == "loop" or self.chance.random() < 0.5:
                continue
            if form == "new":
                inner = self.base(self.templates[entry["value"]["template"]])
                body[name] = {"form": "body", "fields": self.override(inner, home, loop)}
            else:
                body[name] = self.simple_or_choice(home, self.kind(entry["value"]), loop)
        return body

    def kind(self, value):
        return value["kind"]

    def paths(self, home, kind):
        """All paths from a record to fields of this kind."""
        found = []
        for name, entry in self.base(home)["fields"].items():
            value = entry["value"]
            if value["form"] == "new":
                inner = self.templates[value["template"]]
                found += [(name,) + rest for rest in self.paths(inner, kind)]
            elif value["form"] != "loop" and value["kind"] == kind:
                found.append((name,))
        return found

    def readable(self, home, kind, loop):
        found = self.paths(home, kind)
        if loop:
            columns = self.lists[loop["list"]]["columns"]
            found += [(loop["var"], column) for column in columns if columns[column] == kind] * 2
        return found

    def simple_or_choice(self, home, kind, loop):
        if self.chance.random() < 0.2:
            compared = self.chance.choice(("number", "text"))
            paths = self.readable(home, compared, loop)
            if paths:
                return {"form": "choice", "kind": kind, "path": self.chance.choice(paths),
                        "literal": self.literal(compared),
                        "sides": [self.simple(home, kind, loop), self.simple(home, kind, loop)]}
        return self.simple(home, kind, loop)

    def simple(self, home, kind, loop):
        paths = self.readable(home, kind, loop)
        if not paths or self.chance.random() < 0.4:
            return {"form": "literal", "kind": kind, "worth": self.literal(kind)}
        if kind == "text" or self.chance.random() < 0.4:
            return {"form": "copy", "kind": kind, "path": self.chance.choice(paths)}
        terms = [(self.chance.choice((-1, 1)), self.chance.randrange(0, 4), self.chance.choice(paths + [None]))
                 for _ in range(self.chance.randrange(1, 4))]
        terms.append((-1, None, self.chance.choice(paths)))
        return {"form": "sum", "kind": kind, "terms": terms}

    # Writing

    def texts(self):
        return tuple((file, self.text_of(file)) for file in self.files)

    def text_of(self, file):
        lines = [f"import {name}" for name in self.files[file]["imports"]]
        for sort, name in self.files[file]["order"]:
            if sort == "list":
                lines.append(self.list_text(name, self.lists[(file, name)]))
            else:
                template = self.templates[(file, name)]
                if template["parent"]:
                    lines.append(f"template {name} = {template['parent'][1]} " + self.given_text(template["fields"]))
                else:
                    lines.append(f"template {name} " + self.declared_text(template["fields"]))
        if file in self.documents:
            lines.append("document " + self.declared_text(self.documents[file]["fields"]))
        return "\n".join(lines)

    def list_text(self, name, found):
        columns = ", ".join(f"{column}: {kind}" for column, kind in found["columns"].items())
        items = ["{ " + " ".join(f"{c}: {literal_text(v)}" for c, v in item.items()) + " }" for item in found["items"]]
        return f"list {name} ({columns}) [" + " ".join(items) + "]"

    def declared_text(self, fields):
        return "{ " + " ".join(("let " if entry["hidden"] else "") + f"{name}: " + self.value_text(entry["value"])
                               for name, entry in fields.items()) + " }"

    def given_text(self, body):
        return "{" + " ".join(f"{name}: " + self.value_text(value) for name, value in body.items()) + "}"

    def value_text(self, value):
        form = value["form"]
        if form in ("literal", "copy", "sum", "choice"):
            return expression_text(value)
        if form == "body":
            return self.given_text(value["fields"])
        body = "" if value["body"] is None else " " + self.given_text(value["body"])
        if form == "new":
            return f"new {value['template'][1]}{body}"
        where = ""
        if value["where"]:
            column, right = value["where"]
            right = " . ".join(right) if isinstance(right, tuple) else literal_text(right)
            where = f" where {value['var']}.{column} = {right}"
        return f"for {value['var']} in {value['list'][1]}{where} give {value['template'][1]}{body}"

    # Working out

    def records(self, file):
        """Start for walk: the document with its one layer."""
        document = self.documents[file]
        return document, [Layer((file, "", ()), document["fields"], Home(self, document, (), None), True)]


class Home:
    """A record whose fields are read: its base, its path, the item that its loop shows."""

    def __init__(self, world, base, path, item):
        self.base, self.path, self.item = base, path, item


class Layer:
    """What one body says: where it stands, its fields (or None), the home, whether it declares."""

    def __init__(self, spot, fields, home, declares):
        self.spot, self.fields, self.home, self.declares = spot, fields, home, declares

    def get(self, name):
        if self.fields is None or name not in self.fields:
            return None
        return self.fields[name]["value"] if self.declares else self.fields[name]

    def within(self, name, star, home):
        """The layer that this one is for the record in a field."""
        file, owner, path = self.spot
        value = self.get(name)
        body = None
        if value is not None:
            body = value["fields"] if value["form"] == "body" else value["body"]
        return Layer((file, owner, path + ((name, "*") if star else (name,))), body, home, False)

    def level(self, name):
        file, owner, path = self.spot
        return (file, owner, path + (name,))


def literal_text(worth):
    return f'"{worth}"' if isinstance(worth, str) else f"- {-worth}" if worth < 0 else str(worth)


def expression_text(value):
    """The tokens with single blanks between."""
    if value["form"] == "literal":
        return literal_text(value["worth"])
    if value["form"] == "copy":
        return " . ".join(value["path"])
    if value["form"] == "choice":
        sides = [expression_text(side) for side in value["sides"]]
        path = " . ".join(value["path"])
        return f"if {path} = {literal_text(value['literal'])} then {sides[0]} else {sides[1]}"
    parts = []
    for sign, number, path in value["terms"]:
        if sign < 0 or parts:
            parts.append("-" if sign < 0 else "+")
        parts += [] if number is None else [str(number)] + (["*"] if path else [])
        parts += [" . ".join(path)] if path else []
    return " ".join(parts)


class Output:
    """All places of the documents of a world, with their layers; pseudo: one item in each list."""

    def __init__(self, world, pseudo=False):
        self.world, self.pseudo = world, pseudo
        self.layers, self.kinds, self.hidden, self.rows, self.loops = {}, {}, {}, {}, {}
        self.known = {}
        for file in world.documents:
            document, layers = world.records(file)
            self.register_record(file, document, (), layers, False)
        self.trees = {}
        for file in world.documents:
            document, layers = world.records(file)
            self.trees[file] = self.walk(file, document, (), layers, False)

    def template_layers(self, key, path):
        """The layers of a template itself, from the derived ones to the base."""
        layers, owner = [], self.world.templates[key]
        base = self.world.base(owner)
        while True:
            home = Home(self.world, base, path, None)
            spot = (owner["file"], owner["name"], ())
            layers.append(Layer(spot, owner["fields"], home, owner["parent"] is None))
            if owner["parent"] is None:
                return base, layers
            owner = self.world.templates[owner["parent"]]

    def inner(self, value, name, path, layers, star, item):
        """The base and the layers of a record or row behind these layers."""
        base, own = self.template_layers(value["template"], path)
        if not star:
            return base, [layer.within(name, False, layer.home) for layer in layers] + own
        last = layers[-1]
        return base, [last.within(name, True, Home(self.world, last.home.base, last.home.path, item))] + own

    def register_record(self, file, base, path, layers, hidden):
        """Keep the layers of all numbers and texts that are reached without rows."""
        for name, entry in base["fields"].items():
            value, further = entry["value"], path + (name,)
            veiled = hidden or entry["hidden"]
            if value["form"] == "new":
                inner, within = self.inner(value, name, further, layers, False, None)
                self.register_record(file, inner, further, within, veiled)
            elif value["form"] != "loop":
                self.layers[(file, further)] = layers
                self.hidden[(file, further)] = veiled

    def walk(self, file, base, path, layers, hidden):
        """The tree of a record: pairs (name, hidden, value); rows are lists of (serial, tree)."""
        found = []
        for name, entry in base["fields"].items():
            value, further = entry["value"], path + (name,)
            veiled = hidden or entry["hidden"]
            if value["form"] == "new":
                inner, within = self.inner(value, name, further, layers, False, None)
                tree = self.walk(file, inner, further, within, veiled)
            elif value["form"] == "loop":
                shown = self.shown(file, value, path, name)
                self.rows[(file, further)] = (veiled, shown)
                self.loops[(file, further)] = value
                tree = []
                for serial in shown:
                    row = further + (serial,)
                    item = (value, serial)
                    inner, within = self.inner(value, name, row, layers, True, item)
                    self.register_record(file, inner, row, within, veiled)
                    tree.append((serial, self.walk(file, inner, row, within, veiled)))
            else:
                tree = None if self.pseudo else self.value(file, further)
            found.append((name, entry["hidden"], tree))
        return found

    def shown(self, file, loop, path, name):
        items = self.world.lists[loop["list"]]["items"]
        if self.pseudo:
            return (0,)
        if loop["where"] is None:
            return tuple(range(len(items)))
        column, right = loop["where"]
        wanted = self.value(file, path + right) if isinstance(right, tuple) else right
        return tuple(at for at, item in enumerate(items) if item[column] == wanted)

    def levels(self, place):
        return tuple(layer.level(place[1][-1]) for layer in self.layers[place])

    def value(self, file, path):
        if (file, path) not in self.known:
            for layer in self.layers[(file, path)]:
                value = layer.get(path[-1])
                if value is not None:
                    self.known[(file, path)] = self.worth(file, layer.home, value)
                    break
        return self.known[(file, path)]

    def worth(self, file, home, value):
        form = value["form"]
        if form == "literal":
            return value["worth"]
        if form == "copy":
            return self.read(file, home, value["path"])
        if form == "choice":
            same = self.read(file, home, value["path"]) == value["literal"]
            return self.worth(file, home, value["sides"][0 if same else 1])
        total = 0
        for sign, number, path in value["terms"]:
            total += sign * (1 if number is None else number) * (self.read(file, home, path) if path else 1)
        return total

    def read(self, file, home, path):
        if home.item is not None and path[0] == home.item[0]["var"]:
            loop, serial = home.item
            return self.world.lists[loop["list"]]["items"][serial][path[1]]
        return self.value(file, home.path + path)

    def has_circle(self, file):
        """Whether a place of the document reads itself (for pseudo outputs)."""
        reads = {place: self.possible(place) for place in self.layers if place[0] == file}
        done = set()
        while True:
            new = {place for place in reads if place not in done and all(read in done for read in reads[place])}
            if not new:
                return len(done) < len(reads)
            done |= new

    def possible(self, place):
        for layer in self.layers[place]:
            value = layer.get(place[1][-1])
            if value is not None and value["form"] != "literal":
                return [(place[0], layer.home.path + path) for path in self.paths(value)
                        if layer.home.item is None or path[0] != layer.home.item[0]["var"]]
        return []

    def paths(self, value):
        if value["form"] == "literal":
            return []
        if value["form"] == "copy":
            return [value["path"]]
        if value["form"] == "sum":
            return [path for _, _, path in value["terms"] if path]
        return [value["path"]] + self.paths(value["sides"][0]) + self.paths(value["sides"][1])


class Sound:
    """The worlds of many seeds that give a project of the size that is told, made once."""

    made = []

    def __init__(self):
        self.worlds, self.circles = [], 0
        for seed in range(MANY):
            world = World(random.Random(seed))
            pseudo = Output(world, pseudo=True)
            round_about = sorted(file for file in world.documents if pseudo.has_circle(file))
            try:
                project = Project(world.texts())
            except SourceError as error:
                found = (error.word, error.file, error.index)
                text = dict(world.texts())[error.file]
                expected = ("circle", round_about[0] if round_about else "", text.find("document {"))
                assert found == expected, (found, world.texts())
                self.circles += 1
                continue
            assert not round_about, world.texts()
            result = Output(world)
            if len(result.layers) <= 300:
                self.worlds.append((world, project, result))


def sound():
    if not Sound.made:
        Sound.made.append(Sound())
    return Sound.made[0]
