"""What can be wrong with fields and paths: the phase field."""

from sourceback.sources import givens, item_kind, reads_item
from sourceback.trees import Body, Loop, Record, paths_of, right_paths


def field_faults(sources, tree):
    """The indexes in one file of fields and paths that are not there, or not of this sort."""
    faults = []
    for stock in tree.stocks():
        kinds = stock.kinds()
        for item in stock.goods:
            faults += [entry.index for entry in item.entries if entry.name not in kinds]
    for owner in tree.owners():
        for given in givens(sources, owner):
            faults += given_faults(sources, owner, given)
    return faults


def given_faults(sources, owner, given):
    """The faults of one entry, without those of the bodies within it."""
    value = given.entry.value
    faults = [] if given.declares or fits(given.field(), value) else [given.entry.index]
    if isinstance(value, Loop):
        return faults + where_faults(sources, owner, value)
    if isinstance(value, (Record, Body)):
        return faults
    for path in paths_of(value):
        if not leads(sources, owner, given.loop, path):
            faults.append(path.index)
    return faults


def fits(field, value):
    """Tell whether an overriding body may give this field such a value."""
    if field is None or isinstance(field.value, Loop):
        return False
    return isinstance(field.value, Record) == isinstance(value, Body)


def leads(sources, owner, loop, path):
    """Tell whether a path leads to a number or text."""
    if reads_item(loop, path):
        return item_kind(sources, owner, loop, path) is not None
    return sources.field_at(owner, path.parts) is not None


def where_faults(sources, owner, loop):
    """The paths of a condition that do not lead where they must."""
    if loop.where is None:
        return []
    left = loop.where.left
    faults = []
    if not reads_item(loop, left) or item_kind(sources, owner, loop, left) is None:
        faults.append(left.index)
    # The right side begins at the home, where the loop's name is no field.
    for path in right_paths(loop.where):
        if sources.field_at(owner, path.parts) is None:
            faults.append(path.index)
    return faults
