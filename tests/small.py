"""Small projects by chance, such that all selections can be tried, and edits of them."""

from planning import COSTS, random_plan
from randomly import World
from selecting import Wished
from sourceback.edits import wish_of
from sourceback.errors import BackError, SourceError
from sourceback.plans import made
from sourceback.projects import Project
from sourceback.rows import going

FACTORS = (1, 1, 1, 2, 2, 3, 5, 6, 10, 15, 999)


class Small(World):
    """A world of few fields, most of which hang together."""

    def make_file(self, file, earlier):
        self.files[file] = {"imports": list(earlier), "order": []}
        if self.chance.random() < 0.35:
            self.make_list(file)
        for _ in range(self.chance.choice((0, 1, 1, 2))):
            self.make_template(file)
        if file == "main" or self.chance.random() < 0.3:
            self.documents[file] = {"file": file, "name": "", "parent": None, "fields": {}}
            self.declare(self.documents[file], self.chance.randrange(2, 7))

    def __init__(self, chance):
        self.chance = chance
        self.names = ["a", "b", "c", "d", "e", "f", "g", "h", "k", "l", "m", "n", "o", "p", "q", "r", "s", "t", "u", "v", "w",
                      "x", "y", "z"] + ["aa", "bb", "cc", "dd", "ee", "ff", "gg", "hh"]
        chance.shuffle(self.names)
        self.templates, self.lists, self.files, self.documents = {}, {}, {}, {}
        earlier = []
        for file in chance.choice((("main",), ("main",), ("lib", "main"))):
            self.make_file(file, list(earlier))
            earlier.append(file)

    def make_list(self, file):
        super().make_list(file)
        table = list(self.lists.values())[-1]
        table["items"] = table["items"][:2]

    def declare(self, owner, count):
        super().declare(owner, count)
        # Most of what is a plain number is hidden, so that something can change behind what is seen.
        for entry in owner["fields"].values():
            if entry["value"]["form"] == "literal":
                entry["hidden"] = self.chance.random() < 0.6
            elif entry["value"]["form"] in ("sum", "choice", "copy"):
                entry["hidden"] = self.chance.random() < 0.25

    def literal(self, kind):
        return self.chance.choice((0, 1, 1, 2, 3, 7)) if kind == "number" else self.chance.choice(("", "a", "b"))

    def simple(self, home, kind, loop):
        paths = self.readable(home, kind, loop)
        if not paths or self.chance.random() < 0.35:
            return {"form": "literal", "kind": kind, "worth": self.literal(kind)}
        if kind == "text" or self.chance.random() < 0.25:
            return {"form": "copy", "kind": kind, "path": self.chance.choice(paths)}
        terms = [(self.chance.choice((-1, 1, 1)), self.chance.choice(FACTORS), self.chance.choice(paths))
                 for _ in range(self.chance.randrange(1, 4))]
        terms.append((1, self.chance.randrange(5), None))
        return {"form": "sum", "kind": kind, "terms": terms}


def small_worlds(chance, many):
    """So many worlds with their projects."""
    while many:
        world = Small(chance)
        try:
            found = Project(world.texts())
        except SourceError:
            continue
        if len(wish_of(found, ())[0]) in range(1, 15):
            many -= 1
            yield world, found


def reachable(world, found, chance, words=("set", "gone")):
    """An edit with which the visible values are as a plan of some deeds makes them, if it shows the same rows."""
    plan = tuple(deed for deed in random_plan(world, chance, chance.choice((0.2, 0.5, 1)))
                 if deed[0] in words and not (deed[1][:2] in world.lists and deed[1][2][0] >= len(world.lists[deed[1][:2]]["items"])))
    try:
        values, rows = wish_of(made(found, plan), ())
    except BackError:
        return ()
    if rows != wish_of(found, ())[1]:
        return ()
    before = dict(wish_of(found, ())[0])
    return tuple(("set", place, value) for place, value in values if before[place] != value)


def somewhere(found, chance):
    """An edit that sets some values to others."""
    return tuple(("set", place, chance.choice((0, 1, 2, 3, 4, 5, 9, 999)) if isinstance(value, int) else chance.choice(("", "a", "b", "z")))
                 for place, value in wish_of(found, ())[0] if chance.random() < 0.4)


def told(world, found, edit, locked, costs):
    """The wish of an edit, for trying selections."""
    values, rows = map(dict, wish_of(found, edit))
    wished = Wished(world, values, rows, going(found, edit, locked=locked))
    wished.set_prices({**COSTS, **costs}, locked)
    return wished
