"""What the names of several files lead to, and the fields that bodies speak of."""

from sourceback.trees import Body, Loop, Owner, Record, Stock


class Sources:
    """The trees of the files, by the names of the files in ascending order."""

    def __init__(self, trees):
        self.trees = {tree.name: tree for tree in trees}
        self.known = {tree.name: known_names(self.trees, tree) for tree in trees}
        # The levels of each place, filled in when nothing else is wrong any more.
        self.layers = {}

    def known_template(self, file, name):
        """The template that a file knows by this name, or None."""
        found = self.known[file].get(name)
        return found if isinstance(found, Owner) else None

    def known_stock(self, file, name):
        """The list that a file knows by this name, or None."""
        found = self.known[file].get(name)
        return found if isinstance(found, Stock) else None

    def owner_at(self, file, name):
        """The document of a file (named ""), or a template of its own, or None."""
        tree = self.trees[file]
        if name == "":
            return tree.document
        found = self.known_template(file, name)
        return found if found is not None and found.file == file else None

    def parent_of(self, owner):
        """The template behind the = of a derived template."""
        return self.known_template(owner.file, owner.parent.name)

    def base_of(self, owner):
        """The document, or the template without = to which the = of this one leads."""
        while owner.parent is not None:
            owner = self.parent_of(owner)
        return owner

    def used(self, base, entry):
        """The template behind new or give of a field that this base declares."""
        return self.known_template(base.file, entry.value.template.name)

    def inner(self, base, entry):
        """The base of the records or rows that this field of a base has."""
        return self.base_of(self.used(base, entry))

    def field_at(self, owner, parts):
        """The (base, entry) of the number or text to which a path leads, or None."""
        base = self.base_of(owner)
        for part in parts[:-1]:
            entry = base.body.named.get(part)
            if entry is None or not isinstance(entry.value, Record):
                return None
            base = self.inner(base, entry)
        entry = base.body.named.get(parts[-1])
        if entry is None or isinstance(entry.value, (Record, Loop)):
            return None
        return (base, entry)

    def base_at(self, file, parts):
        """The base of the record to which the path of a document leads."""
        base = self.trees[file].document
        for part in parts:
            if isinstance(part, str):
                base = self.inner(base, base.body.named[part])
        return base


def known_names(trees, tree):
    """The templates and lists of a file and of those that it imports, by their names."""
    known = {found.name: found for found in tree.declared}
    for mark in tree.imports:
        for found in trees[mark.name].declared:
            known.setdefault(found.name, found)
    return known


class Given:
    """An entry in a body: the base whose field it is, the loop around it, whether it declares."""

    def __init__(self, entry, base, loop, declares):
        self.entry = entry
        self.base = base
        self.loop = loop
        self.declares = declares

    def field(self):
        """The entry that declares this field, or None."""
        return self.base.body.named.get(self.entry.name)


def givens(sources, owner):
    """All entries in the bodies of an owner, as far as these belong to records that are there."""
    found = []
    waiting = [(owner.body, sources.base_of(owner), None)]
    while waiting:
        body, base, loop = waiting.pop()
        for entry in body.entries:
            given = Given(entry, base, loop, body.declaring)
            found.append(given)
            further = body_within(sources, given)
            if further is not None:
                waiting.append(further)
    return found


def body_within(sources, given):
    """The body in the value of an entry, with its base and its loop, or None."""
    value = given.entry.value
    if given.declares:
        if not isinstance(value, (Record, Loop)) or value.body is None:
            return None
        loop = value if isinstance(value, Loop) else None
        return (value.body, sources.inner(given.base, given.entry), loop)
    field = given.field()
    if not isinstance(value, Body) or field is None or not isinstance(field.value, Record):
        return None
    return (value, sources.inner(given.base, field), given.loop)


def reads_item(loop, path):
    """Tell whether a path in a body begins at the item of the loop around it."""
    return loop is not None and path.parts[0] == loop.item.name


def item_kind(sources, owner, loop, path):
    """The kind of a field of the item to which a path leads that begins at it, or None."""
    if len(path.parts) != 2:
        return None
    return sources.known_stock(owner.file, loop.stock.name).kinds().get(path.parts[1])
