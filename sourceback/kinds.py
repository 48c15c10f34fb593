"""Which fields are numbers and which are texts, and what can be wrong with that: the phase kind."""

from sourceback.sources import givens, item_kind, reads_item
from sourceback.trees import Body, Choice, Literal, Loop, Record, literal_kind


class Kinds:
    """Finds out the kinds of declared fields, and keeps them.

    A field is known here as (file, template, name). A copy has the kind of what it names, so
    a search follows copies; it goes on with the second side of a choice only where the first one
    leads back to a field from which the search came.
    """

    def __init__(self, sources):
        self.sources = sources
        self.known = {}
        # The known fields whose search met no copy that leads back.
        self.plain = {}

    def of(self, base, entry):
        """The kind of a number or text that a base declares."""
        field = (base.file, base.name, entry.name)
        if field not in self.known:
            self.known[field] = self.search(field)
        return self.known[field]

    def path_kind(self, owner, loop, path):
        """The kind of what a path leads to that stands in this loop of this owner."""
        if reads_item(loop, path):
            return item_kind(self.sources, owner, loop, path)
        base, entry = self.sources.field_at(owner, path.parts)
        return self.of(base, entry)

    def search(self, start):
        """The kind of a field, found out by itself."""
        trail = [start]
        untried = [self.candidates(start)]
        # How far back along the trail the copies at a field lead; its own number if no further.
        back = {start: 0}
        straight = True
        while True:
            if not untried[-1]:
                if back[trail[-1]] >= len(trail) - 1:
                    return "number"
                done = trail.pop()
                untried.pop()
                back[trail[-1]] = min(back[trail[-1]], back[done])
                continue
            step = untried[-1].pop()
            if isinstance(step, str) or step in self.plain:
                kind = step if isinstance(step, str) else self.known[step]
                break
            if step in back:
                straight = False
                back[trail[-1]] = min(back[trail[-1]], back[step])
            else:
                back[step] = len(trail)
                trail.append(step)
                untried.append(self.candidates(step))
        if straight:
            self.keep(trail, kind)
        return kind

    def keep(self, trail, kind):
        """Keep the kind of fields each of which copies the next one."""
        for field in trail:
            self.known[field] = kind
            self.plain[field] = True

    def candidates(self, field):
        """What tells the kind of a field, last what is looked at first: kinds and fields."""
        file, name, part = field
        owner = self.sources.owner_at(file, name)
        value = owner.body.named[part].value
        simples = list(value.sides[::-1]) if isinstance(value, Choice) else [value]
        return [self.told_by(owner, simple) for simple in simples]

    def told_by(self, owner, simple):
        """The kind of a literal or sum; of a copy the field that it names."""
        if isinstance(simple, Literal):
            return literal_kind(simple)
        if not simple.alone:
            return "number"
        base, entry = self.sources.field_at(owner, simple.terms[0].path.parts)
        return (base.file, base.name, entry.name)


def kind_faults(sources, kinds, tree):
    """The indexes in one file of values of another kind than needed."""
    faults = []
    for stock in tree.stocks():
        for item in stock.goods:
            faults += item_faults(stock.kinds(), item)
    for owner in tree.owners():
        for given in givens(sources, owner):
            faults += given_faults(kinds, owner, given)
    return faults


def item_faults(needed, item):
    """The faults of an item: fields that it has not, literals of another kind."""
    faults = [] if all([name in item.named for name in needed]) else [item.index]
    for entry in item.entries:
        if literal_kind(entry.value) != needed[entry.name]:
            faults.append(entry.value.index)
    return faults


def given_faults(kinds, owner, given):
    """The faults of one entry, without those of the bodies within it."""
    value = given.entry.value
    if isinstance(value, Loop):
        return where_faults(kinds, owner, value)
    if isinstance(value, (Record, Body)):
        return []
    needed = kinds.of(given.base, given.field())
    if not isinstance(value, Choice):
        return simple_faults(kinds, owner, given.loop, value, needed)
    faults = []
    if literal_kind(value.literal) != kinds.path_kind(owner, given.loop, value.path):
        faults.append(value.literal.index)
    for side in value.sides:
        faults += simple_faults(kinds, owner, given.loop, side, needed)
    return faults


def simple_faults(kinds, owner, loop, value, needed):
    """The index of a literal or sum if it is not of the kind that is needed."""
    if isinstance(value, Literal):
        found = [literal_kind(value)]
    else:
        found = [kinds.path_kind(owner, loop, path) for path in value.paths()]
        if not value.alone:
            # What adds terms is a number, and each of its paths must be one, too.
            found.append("number")
    return [] if all([kind == needed for kind in found]) else [value.index]


def where_faults(kinds, owner, loop):
    """The index of the right side of a condition if it is not of the kind of the left one."""
    if loop.where is None:
        return []
    right = loop.where.right
    if isinstance(right, Literal):
        found = literal_kind(right)
    else:
        # The loop's name is no field of the home, so this path never begins at the item.
        found = kinds.path_kind(owner, None, right)
    return [] if found == item_kind(kinds.sources, owner, loop, loop.where.left) else [right.index]
