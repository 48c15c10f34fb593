"""Plans by chance for the worlds by chance, and a second way to tell, to cost and to make them.

What a plan makes of the data of a world tells the outputs; what it makes of the tokens of a text, each
with the gap ahead of it, tells the text.
"""

import copy
import re

COSTS = {"change": 2, "add": 3, "cut": 4, "remove": 2, "move": 1, "delete": 2, "insert": 3}
TOKEN = re.compile(r'[a-z]+|[0-9]+|"[^"]*"|[{}\[\]():.,=+*-]')
GAP = re.compile(r"(?:[ \n]|#[^\n]*(?:\n|$))*")
# What stays of the gap ahead of an entry that goes: its remarks, with their line feeds.
KEPT = re.compile(r"(?:[ \n]*#[^\n]*\n)*")


class Spot:
    """A spot of a world: its kind, the data in which its value is kept under its last name, whether it is the last level."""

    def __init__(self, kind, value, last):
        self.kind, self.value, self.last = kind, value, last

    def is_shut(self):
        return self.value is not None and self.value["form"] != "literal"


def world_spots(world):
    """All spots of the documents and templates of a world."""
    found = {}
    owners = {(file, name): owner for (file, name), owner in world.templates.items()}
    owners.update({(file, ""): owner for file, owner in world.documents.items()})
    for (file, name), owner in owners.items():
        base = world.base(owner)
        declares = owner["parent"] is None
        for field, entry in base["fields"].items():
            said = owner["fields"].get(field)
            value = said["value"] if declares and said else said
            add_spots(world, found, (file, name), (field,), entry["value"], value, declares)
    return found


def add_spots(world, found, key, path, declared, value, declares):
    """The spots at a path: declared is the declaring value there, value what the owner says itself."""
    form = declared["form"]
    if form not in ("new", "loop"):
        found[key + (path,)] = Spot(declared["kind"], value, declares and len(path) == 1)
        return
    if form == "loop" and (len(path) > 1 or not declares):
        return
    fields = None
    if value is not None:
        fields = value["fields"] if value["form"] == "body" else value["body"]
    further = path + ("*",) if form == "loop" else path
    for field, entry in world.base(world.templates[declared["template"]])["fields"].items():
        said = None if fields is None else fields.get(field)
        add_spots(world, found, key, further + (field,), entry["value"], said, declares)


def other_literal(chance, kind, old):
    choices = [-12, -1, 0, 3, 70, 123456789] if kind == "number" else ["", "a", "d e", "; | #0 { x }", "]"]
    return chance.choice([worth for worth in choices if worth != old])


def random_plan(world, chance, much=0.4):
    """A plan for a project just made of a world."""
    deeds = []
    for spot, found in world_spots(world).items():
        if found.is_shut() or chance.random() > much:
            continue
        if found.value is not None and not found.last and chance.random() < 0.5:
            deeds.append(("gone", spot))
        else:
            old = None if found.value is None else found.value["worth"]
            deeds.append(("set", spot, other_literal(chance, found.kind, old)))
    for key, table in world.lists.items():
        deeds += list_deeds(key, table, chance, much)
    return tuple(sorted(deeds))


def list_deeds(key, table, chance, much):
    count = len(table["items"])
    serials, deeds = list(range(count)), []
    if chance.random() < much:
        serials = [serial for serial in serials if chance.random() < 0.8]
        fresh = list(range(count, count + chance.randrange(0, 4)))
        serials += fresh
        chance.shuffle(serials)
        if serials != list(range(count)):
            deeds.append(("order",) + key + (tuple(serials),))
            for serial in fresh:
                deeds += [("set", key + ((serial, column),), other_literal(chance, kind, None))
                          for column, kind in table["columns"].items()]
    for serial, item in enumerate(table["items"]):
        for column, kind in table["columns"].items():
            if serial in serials and chance.random() < much / 2:
                deeds.append(("set", key + ((serial, column),), other_literal(chance, kind, item[column])))
    return deeds


def changed_world(world, plan):
    """The world with a plan."""
    after = copy.deepcopy(world)
    for deed in plan:
        if deed[0] == "order":
            table = after.lists[deed[1:3]]
            old = table["items"]
            table["items"] = [dict(old[serial]) if serial < len(old) else {} for serial in deed[3]]
    for deed in plan:
        if deed[0] == "set" and deed[1][:2] in after.lists:
            change_item(world, after, plan, deed)
        elif deed[0] in ("set", "gone"):
            change_spot(after, deed)
    return after


def change_item(world, after, plan, deed):
    file, name, (serial, field) = deed[1]
    orders = [other[3] for other in plan if other[:3] == ("order", file, name)]
    serials = orders[0] if orders else tuple(range(len(world.lists[(file, name)]["items"])))
    after.lists[(file, name)]["items"][serials.index(serial)][field] = deed[2]


def change_spot(world, deed):
    file, name, path = deed[1]
    owner = world.documents[file] if name == "" else world.templates[(file, name)]
    fields, wrapped = owner["fields"], owner["parent"] is None
    names = [part for part in path if part != "*"]
    for at, part in enumerate(names[:-1]):
        value = fields.get(part)
        if wrapped:
            value = value["value"]
            if value["body"] is None:
                value["body"] = {}
            fields = value["body"]
        else:
            fields = fields.setdefault(part, {"form": "body", "fields": {}})["fields"]
        wrapped = False
    if deed[0] == "gone":
        del fields[names[-1]]
    else:
        value = {"form": "literal", "kind": "text" if isinstance(deed[2], str) else "number", "worth": deed[2]}
        if wrapped:
            fields[names[-1]]["value"] = value
        else:
            fields[names[-1]] = value


def second_cost(world, plan, **given):
    """The cost of a plan for a project just made of a world."""
    costs = dict(COSTS, **given)
    spots = world_spots(world)
    total = 0
    for deed in plan:
        if deed[0] == "gone":
            total += costs["remove"]
        elif deed[0] == "order":
            total += order_cost(len(world.lists[deed[1:3]]["items"]), deed[3], costs)
        elif deed[1][:2] in world.lists:
            total += costs["change"] if deed[1][2][0] < len(world.lists[deed[1][:2]]["items"]) else 0
        elif spots[deed[1]].value is not None:
            total += costs["change"]
        else:
            total += costs["cut" if first_behind(world, spots, deed[1]).is_shut() else "add"]
    return total


def first_behind(world, spots, spot):
    """The first spot with a definition behind a spot."""
    file, name, path = spot
    owner = world.documents[file] if name == "" else world.templates[(file, name)]
    while True:
        found = spots.get((owner["file"], owner["name"], path))
        if found is not None and found.value is not None:
            return found
        if owner["parent"] is not None:
            owner = world.templates[owner["parent"]]
        else:
            owner = world.templates[owner["fields"][path[0]]["value"]["template"]]
            path = path[2:] if path[1] == "*" else path[1:]


def order_cost(count, serials, costs):
    stay = [serial for serial in serials if serial < count]
    most = max(len(part) for part in ascending_parts(stay))
    return (costs["delete"] * (count - len(stay)) + costs["insert"] * (len(serials) - len(stay))
            + costs["move"] * (len(stay) - most))


def ascending_parts(serials):
    """All parts of some serials that ascend."""
    found = [()]
    for serial in serials:
        found += [part + (serial,) for part in found if not part or part[-1] < serial]
    return found


# The text, by its tokens


def pieces(text):
    """The [gap, token] of a text, the last token being "" for its end."""
    found, at = [], 0
    while True:
        gap = GAP.match(text, at).group()
        at += len(gap)
        if at == len(text):
            return found + [[gap, ""]]
        token = TOKEN.match(text, at).group()
        at += len(token)
        found.append([gap, token])


def literal_text(worth):
    return f'"{worth}"' if isinstance(worth, str) else str(worth)


class Sheet:
    """The tokens of a file, and what is to change, which is all made at once."""

    def __init__(self, text):
        self.parts = pieces(text)
        self.match = {}
        waiting = []
        for at, (_, token) in enumerate(self.parts):
            if token in ("{", "[", "("):
                waiting.append(at)
            elif token in ("}", "]", ")"):
                self.match[waiting.pop()] = at
        # By numbers of tokens: where what goes ends, and where a literal ends with the new one.
        self.gone, self.literals, self.added, self.lists = {}, {}, {}, {}

    def find(self, *words):
        """The number of the last of some tokens that follow one another."""
        tokens = [token for _, token in self.parts]
        for at in range(len(tokens)):
            if tokens[at:at + len(words)] == list(words):
                return at + len(words) - 1
        raise AssertionError(words)

    def entries(self, start):
        """The entries of the body that begins here: name, number of its first token, of the one behind it."""
        found, at, end = [], start + 1, self.match[start]
        while at < end:
            first = at
            at += 1 if self.parts[at][1] == "let" else 0
            name = self.parts[at][1]
            at += 2
            while at < end and not self.begins(at, end):
                at = self.match[at] + 1 if at in self.match else at + 1
            found.append((name, first, at))
        return found

    def begins(self, at, end):
        """Tell whether an entry begins with this token: a name and a colon, or let."""
        word = self.parts[at][1]
        return word == "let" or (word.isalpha() and at + 1 < end and self.parts[at + 1][1] == ":"
                                 and self.parts[at - 1][1] != "let")

    def body_of(self, owner):
        if owner == "":
            return self.find("document", "{")
        at = self.find("template", owner)
        while self.parts[at][1] != "{":
            at += 1
        return at

    def descend(self, owner, path):
        """The body, or the template's name in a use without one, that is deepest on the way, and the rest."""
        start, rest = self.body_of(owner), [part for part in path if part != "*"]
        while True:
            found = {name: (first, behind) for name, first, behind in self.entries(start)}
            if rest[0] not in found:
                return start, rest, None
            first, behind = found[rest[0]]
            words = [token for _, token in self.parts[first:behind]]
            if "{" in words:
                start = first + words.index("{")
            elif "new" in words or "give" in words:
                return behind - 1, rest[1:], None
            else:
                return start, rest, (first, behind)
            rest = rest[1:]

    def set(self, owner, path, worth):
        start, rest, found = self.descend(owner, path)
        if found:
            first, behind = found
            colon = [token for _, token in self.parts[first:behind]].index(":") + first
            self.literals[colon + 1] = (behind, worth)
        else:
            self.added.setdefault(start, []).append((rest, worth))

    def take(self, owner, path):
        start, _, (first, behind) = self.descend(owner, path)
        self.gone[first] = behind

    def order(self, name, columns, serials, worths):
        """Another order of a list whose items have the serials 0, 1, .."""
        self.lists[name] = (columns, serials, worths)

    def set_item(self, name, serial, field, worth):
        first, behind = self.items(name)[serial]
        at = first + [token for _, token in self.parts[first:behind]].index(field) + 2
        self.literals[at] = (at + (2 if self.parts[at][1] == "-" else 1), worth)

    def bracket(self, name):
        at = self.find("list", name)
        while self.parts[at][1] != "[":
            at += 1
        return at

    def items(self, name):
        at = self.bracket(name) + 1
        found = []
        while self.parts[at][1] == "{":
            found.append((at, self.match[at] + 1))
            at = self.match[at] + 1
        return found

    def written(self):
        """The text with all made at once."""
        inserts = self.inserts()
        out, at = "", 0
        while at < len(self.parts):
            if at in self.gone:
                while at in self.gone:
                    out += KEPT.match(self.parts[at][0]).group()
                    at = self.gone[at]
                gap, token = self.parts[at]
                out += " " if out[-1].isalpha() and gap == "" and token.isalpha() else ""
            out += self.parts[at][0]
            if at in self.literals:
                behind, worth = self.literals[at]
                out += literal_text(worth)
                at = behind - 1
            else:
                out += self.parts[at][1]
            out += inserts.get(at, "")
            at += 1
            for name in self.lists:
                if at == self.bracket(name) + 1:
                    out += self.list_text(name)
                    at = self.match[at - 1]
        return out

    def inserts(self):
        """What comes, by the token behind which it comes."""
        found = {}
        for start, more in self.added.items():
            text = nested(more)
            if self.parts[start][1] != "{":
                found[start] = " { " + text + " }"
                continue
            left = [behind for _, first, behind in self.entries(start) if first not in self.gone]
            if left:
                found[left[-1] - 1] = " " + text
            else:
                found[start] = " " + text + ("" if self.inside(start) else " ")
        return found

    def inside(self, start):
        """What is left between the braces of a body from which all entries go."""
        text, at = "", start + 1
        while at in self.gone:
            text += KEPT.match(self.parts[at][0]).group()
            at = self.gone[at]
        return text + self.parts[at][0]

    def list_text(self, name):
        columns, serials, worths = self.lists[name]
        items, out = self.items(name), ""
        for serial in serials:
            if serial >= len(items):
                fields = [f"{field}: {literal_text(worths[(serial, field)])}" for field in columns]
                out += " " + " ".join(["{"] + fields + ["}"])
                continue
            at, behind = items[serial]
            while at < behind:
                out += self.parts[at][0]
                if at in self.literals:
                    at, worth = self.literals[at]
                    out += literal_text(worth)
                else:
                    out += self.parts[at][1]
                    at += 1
        if not items and serials and self.parts[self.bracket(name) + 1][0] == "":
            out += " "
        return out


def nested(more):
    """The entries for (rest of a path, literal), in ascending order of the paths."""
    groups = {}
    for rest, worth in sorted(more):
        groups.setdefault(rest[0], []).append((rest[1:], worth))
    parts = []
    for name, inner in groups.items():
        parts.append(f"{name}: " + (literal_text(inner[0][1]) if inner[0][0] == [] else "{ " + nested(inner) + " }"))
    return " ".join(parts)


def second_text(world, file, text, plan):
    """The text of a file of a world, in any layout, with a plan."""
    sheet = Sheet(text)
    for deed in plan:
        if deed[1][0] == file if deed[0] != "order" else deed[1] == file:
            if deed[0] == "order":
                table = world.lists[deed[1:3]]
                worths = {other[1][2]: other[2] for other in plan if other[0] == "set" and other[1][:2] == deed[1:3]}
                sheet.order(deed[2], list(table["columns"]), deed[3], worths)
            elif deed[0] == "gone":
                sheet.take(deed[1][1], deed[1][2])
            elif deed[1][:2] not in world.lists:
                sheet.set(deed[1][1], deed[1][2], deed[2])
            elif deed[1][2][0] < len(world.lists[deed[1][:2]]["items"]):
                sheet.set_item(deed[1][1], *deed[1][2], deed[2])
    return sheet.written()


def second_is_plan(world, value, locked=()):
    """Whether any value is a plan for a project just made of a world."""
    if type(value) is not tuple or not all(has_deed_form(deed) for deed in value):
        return False
    spots = world_spots(world)
    orders = {deed[1:3]: deed[3] for deed in value if deed[0] == "order"}
    about = [deed[1:3] if deed[0] == "order" else deed[1] for deed in value]
    if len(set(about)) < len(about):
        return False
    sets = {deed[1]: deed[2] for deed in value if deed[0] == "set"}
    needed = set()
    for key, serials in orders.items():
        if key not in world.lists or key[0] in locked:
            return False
        count = len(world.lists[key]["items"])
        fresh = sorted(serial for serial in serials if serial >= count)
        if serials == tuple(range(count)) or len(set(serials)) < len(serials) or min(serials, default=0) < 0:
            return False
        if fresh != list(range(count, count + len(fresh))):
            return False
        needed |= {key + ((serial, column),) for serial in fresh for column in world.lists[key]["columns"]}
    if not needed <= set(sets):
        return False
    for deed in value:
        if deed[0] == "gone":
            spot = spots.get(deed[1])
            if spot is None or spot.is_shut() or spot.value is None or spot.last or deed[1][0] in locked:
                return False
        elif deed[0] == "set" and not can_set(world, spots, orders, needed, deed, locked):
            return False
    return list(value) == sorted(value)


def can_set(world, spots, orders, needed, deed, locked):
    spot, worth = deed[1:]
    if spot[0] in locked:
        return False
    if spot[:2] in world.lists:
        table = world.lists[spot[:2]]
        if len(spot[2]) != 2 or spot[2][1] not in table["columns"]:
            return False
        kind, old = table["columns"][spot[2][1]], None
        if spot not in needed:
            if spot[2][0] not in orders.get(spot[:2], range(len(table["items"]))) or spot[2][0] not in range(len(table["items"])):
                return False
            old = table["items"][spot[2][0]][spot[2][1]]
    else:
        found = spots.get(spot)
        if found is None or found.is_shut():
            return False
        kind, old = found.kind, None if found.value is None else found.value["worth"]
    return fits(kind, worth) and (old is None or old != worth)


def fits(kind, worth):
    if kind == "number":
        return type(worth) is int
    return type(worth) is str and len(worth) <= 60 and all(" " <= sign <= "~" and sign not in '"\\' for sign in worth)


def has_deed_form(deed):
    if type(deed) is not tuple or not deed or type(deed[0]) is not str:
        return False
    if deed[0] == "order":
        return (len(deed) == 4 and type(deed[1]) is str and type(deed[2]) is str and type(deed[3]) is tuple
                and all(type(serial) is int for serial in deed[3]))
    if (deed[0], len(deed)) not in (("set", 3), ("gone", 2)) or type(deed[1]) is not tuple or len(deed[1]) != 3:
        return False
    file, name, path = deed[1]
    if type(file) is not str or type(name) is not str or type(path) is not tuple:
        return False
    return all(type(part) in (int, str) for part in path) and (deed[0] == "gone" or type(deed[2]) in (int, str))


def otherwise(value, chance):
    """A value with one thing changed, left out or twice, at any depth."""
    if type(value) is tuple and value and chance.random() < 0.85:
        at = chance.randrange(len(value))
        what = chance.random()
        if what < 0.08:
            return value[:at] + value[at + 1:]
        if what < 0.16:
            return value[:at] + (value[at],) + value[at:]
        if what < 0.22:
            return value[::-1]
        if what < 0.26:
            return list(value)
        return value[:at] + (otherwise(value[at], chance),) + value[at + 1:]
    if type(value) is int:
        return chance.choice([value + 1, value - 1, -value, bool(value), str(value), None, (value,), 10 ** 6])
    if type(value) is str:
        return chance.choice([value + "x", value[:-1], "", "*", "set", "gone", "order", "main", 0, 1, None, [value], '"', "x" * 61, "\n"])
    return chance.choice([(), None, True, 0, "", [], {}, ((),), ("a",)])
