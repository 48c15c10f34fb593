"""What can be wrong with names: the phases import, twice, name and ring.

Each function returns the indexes in one file at which its phase finds an error.
"""

from sourceback.trees import Body, Loop, Record


def import_faults(trees, tree):
    """Imports of files that are not there, of the file itself, and of one file twice."""
    faults = [mark.index for mark in tree.imports if mark.name == tree.name or mark.name not in trees]
    return faults + repeated(tree.imports)


def repeated(marks):
    """The indexes of those whose name one ahead of them has."""
    faults = []
    seen = set()
    for mark in marks:
        if mark.name in seen:
            faults.append(mark.index)
        seen.add(mark.name)
    return faults


def twice_faults(trees, tree):
    """Names that are known already, fields that are given twice, loops with the name of a field."""
    faults = repeated(tree.declared) + brought_twice(trees, tree)
    for stock in tree.stocks():
        faults += repeated(stock.columns)
        for item in stock.goods:
            faults += repeated(item.entries)
    for owner in tree.owners():
        for body in bodies_in(owner.body):
            faults += repeated(body.entries)
        faults += hiding_loops(owner.body)
    return faults


def brought_twice(trees, tree):
    """The imports that bring a known name."""
    faults = []
    known = {found.name: True for found in tree.declared}
    for mark in tree.imports:
        brought = [found.name for found in trees[mark.name].declared]
        if any([name in known for name in brought]):
            faults.append(mark.index)
        for name in brought:
            known[name] = True
    return faults


def bodies_in(body):
    """A body and all bodies within it."""
    found = []
    waiting = [body]
    while waiting:
        body = waiting.pop()
        found.append(body)
        for entry in body.entries:
            value = entry.value
            further = value.body if isinstance(value, (Record, Loop)) else value
            if isinstance(further, Body):
                waiting.append(further)
    return found


def hiding_loops(body):
    """The names of loops that are fields of the body in which the loops stand."""
    loops = [entry.value for entry in body.entries if isinstance(entry.value, Loop)]
    return [loop.item.index for loop in loops if loop.item.name in body.named]


def name_faults(sources, tree):
    """Templates that are not known as templates, lists that are not known as lists."""
    faults = []
    for owner in tree.owners():
        for mark in template_marks(owner):
            if sources.known_template(tree.name, mark.name) is None:
                faults.append(mark.index)
        for entry in owner.body.entries:
            if isinstance(entry.value, Loop) and sources.known_stock(tree.name, entry.value.stock.name) is None:
                faults.append(entry.value.stock.index)
    return faults


def template_marks(owner):
    """The templates that an owner uses, by =, new or give."""
    marks = [] if owner.parent is None else [owner.parent]
    for entry in owner.body.entries:
        if isinstance(entry.value, (Record, Loop)):
            marks.append(entry.value.template)
    return marks


def ring_faults(sources, tree):
    """The templates that use themselves, perhaps over others."""
    return [owner.index for owner in tree.owners() if is_in_ring(sources, owner)]


def is_in_ring(sources, start):
    """Tell whether a template uses itself."""
    seen = {}
    waiting = [start]
    while waiting:
        owner = waiting.pop()
        for mark in template_marks(owner):
            used = sources.known_template(owner.file, mark.name)
            if (used.file, used.name) == (start.file, start.name):
                return True
            if (used.file, used.name) not in seen:
                seen[(used.file, used.name)] = True
                waiting.append(used)
    return False
