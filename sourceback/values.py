"""The values of places, and the outputs of documents."""

from sourceback.errors import NoFile, NoPlace
from sourceback.reading import Reading, found_at
from sourceback.trees import Loop, Record


def value_of(project, place):
    """The value of a place."""
    reading = Reading(project)
    found = found_at(reading, place)
    if found is None or found.is_rows:
        raise NoPlace(place)
    file, path = place
    return reading.worth_at(file, path)


def shown(project, rows_place):
    """The serials of the items that a loop shows."""
    reading = Reading(project)
    found = found_at(reading, rows_place)
    if found is None or found.hidden or not found.is_rows:
        raise NoPlace(rows_place)
    file, path = rows_place
    return reading.shown_at(file, path)


def output(project, file):
    """The output of a document, with rows as tuples of records."""
    if file not in project.documents:
        raise NoFile(file)
    reading = Reading(project)
    return record_at(reading, file, (), reading.sources.trees[file].document, False)


def labelled(project, file):
    """The output of a document, with rows as tuples of (serial, record)."""
    if file not in project.documents:
        raise NoFile(file)
    reading = Reading(project)
    return record_at(reading, file, (), reading.sources.trees[file].document, True)


def record_at(reading, file, path, base, with_serials):
    """The visible fields of the record to which a path leads, with their values."""
    pairs = []
    for entry in base.body.entries:
        if not entry.hidden:
            further = path + (entry.name,)
            if isinstance(entry.value, Record):
                inner = reading.sources.inner(base, entry)
                value = record_at(reading, file, further, inner, with_serials)
            elif isinstance(entry.value, Loop):
                inner = reading.sources.inner(base, entry)
                value = rows_at(reading, file, further, inner, with_serials)
            else:
                value = reading.worth_at(file, further)
            pairs.append((entry.name, value))
    return tuple(pairs)


def rows_at(reading, file, path, base, with_serials):
    """The rows to which a path leads."""
    rows = []
    for serial in reading.shown_at(file, path):
        record = record_at(reading, file, path + (serial,), base, with_serials)
        rows.append((serial, record) if with_serials else record)
    return tuple(rows)
