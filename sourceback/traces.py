"""Things, and the steps by which each of them is worked out."""

from sourceback.errors import NoSpot, NoThing
from sourceback.layers import is_expression, pattern_of
from sourceback.reading import Reading, all_found, found_at
from sourceback.shapes import is_part
from sourceback.sources import reads_item
from sourceback.spots import is_spot
from sourceback.trees import Choice, paths_of, right_paths


def things(project):
    """All values, rows and conditions of a project, ascending."""
    return tuple(sorted(all_things(Reading(project))))


def worth(project, thing):
    """The value of a place, the serials of rows, whether a condition holds."""
    return worth_of(reading_for(project, thing), thing)


def trace(project, thing):
    """Go through the steps by which a thing is worked out."""
    for step in steps_of(reading_for(project, thing), thing):
        yield step


def sources(project, thing):
    """The spots of all literals from which a thing is worked out, over any reads, ascending."""
    reading = reading_for(project, thing)
    spots = {}
    met = {thing: True}
    waiting = [thing]
    while waiting:
        read = waiting.pop()
        for step in steps_of(reading, read):
            if step[0] == "literal":
                spots[step[1]] = True
            elif step[0] == "read" and step[1] not in met:
                met[step[1]] = True
                waiting.append(step[1])
    return tuple(sorted(list(spots)))


def readers(project, value):
    """The things whose own trace has a spot or a list, ascending."""
    if not is_listed(project, value) and not is_spot(project, value):
        raise NoSpot(value)
    reading = Reading(project)
    found = [thing for thing in all_things(reading) if looks_at(reading, thing, value)]
    return tuple(sorted(found))


def reading_for(project, value):
    """A reading of the project; raises NoThing if any value is no thing of it."""
    reading = Reading(project)
    if not is_thing(reading, value):
        raise NoThing(value)
    return reading


def all_things(reading):
    """All things, in any order."""
    found = []
    for place in all_found(reading):
        if not place.is_rows:
            found.append(("value", place.spelled))
            continue
        found.append(("rows", place.spelled))
        file, path = place.spelled
        loop, stock = reading.loop_at(file, path)
        if loop.where is not None:
            serials = reading.stored.serials(stock.file, stock.name)
            found += [("where", place.spelled, serial) for serial in serials]
    return found


def is_thing(reading, value):
    """Tell whether any value is a thing."""
    if not isinstance(value, tuple) or len(value) not in (2, 3):
        return False
    found = found_at(reading, value[1])
    if found is None:
        return False
    if len(value) == 2:
        return value[0] == ("rows" if found.is_rows else "value")
    return value[0] == "where" and found.is_rows and is_compared(reading, value[1], value[2])


def is_compared(reading, rows_place, value):
    """Tell whether any value is a serial of the list of rows with a condition."""
    file, path = rows_place
    loop, stock = reading.loop_at(file, path)
    return loop.where is not None and is_part(value) and value in reading.stored.serials(stock.file, stock.name)


def is_listed(project, value):
    """Tell whether any value is ("list", file, list)."""
    if not isinstance(value, tuple) or len(value) != 3 or value[0] != "list":
        return False
    return project.has_list(value[1], value[2])


def looks_at(reading, thing, value):
    """Tell whether the own trace of a thing has a spot or a list."""
    return any([step[1] == value or step[:3] == value for step in steps_of(reading, thing)])


def worth_of(reading, thing):
    """The value of a thing."""
    file, path = thing[1]
    if thing[0] == "value":
        return reading.worth_at(file, path)
    if thing[0] == "rows":
        return reading.shown_at(file, path)
    loop, stock = reading.loop_at(file, path)
    found = reading.item_worth(stock, thing[2], loop.where.left.parts[1])
    return found == reading.wanted_at(file, path, loop)


def steps_of(reading, thing):
    """The steps by which a thing is worked out."""
    file, path = thing[1]
    if thing[0] == "value":
        return value_steps(reading, file, path)
    if thing[0] == "rows":
        return rows_steps(reading, thing)
    return where_steps(reading, file, path, thing[2])


def value_steps(reading, file, path):
    """The steps of a value: its levels, and what the expression at the last of them reads."""
    steps = []
    # Levels behind the one that tells the value are not looked at.
    for level in reading.sources.layers[(file, pattern_of(path))]:
        if is_expression(level.value):
            steps.append(("expression", level.spot, level.value.words))
            return steps + expression_steps(reading, file, path, level)
        if level.value is not None:
            steps.append(("literal", level.spot, level.value.worth))
            return steps
        steps.append(("none", level.spot))
    return steps


def expression_steps(reading, file, path, level):
    """The steps behind an expression."""
    reads = paths_of(level.value)
    ahead = []
    if isinstance(level.value, Choice):
        # Not the value itself, which may be what these steps are asked for.
        for missing in reading.missing(file, path):
            reading.worth_at(file, missing)
        way = ("way", reading.is_same(file, path, level))
        ahead = [read_step(reading, file, path, level, level.value.path), way]
        reads = paths_of(reading.side(file, path, level))
    return ahead + [read_step(reading, file, path, level, read) for read in reads]


def read_step(reading, file, path, level, read):
    """The step of one path that is read at a level of a place."""
    if reads_item(level.loop, read):
        return item_step(reading, level.stock, path[level.home + 1], read.parts[1])
    return place_step(reading, file, path[:level.home] + read.parts)


def item_step(reading, stock, serial, field):
    """The step of a field of an item."""
    return ("literal", (stock.file, stock.name, (serial, field)), reading.item_worth(stock, serial, field))


def place_step(reading, file, path):
    """The step of a place that is read."""
    return ("read", ("value", (file, path)), reading.worth_at(file, path))


def where_steps(reading, file, path, serial):
    """The steps of a condition."""
    loop, stock = reading.loop_at(file, path)
    steps = [("where", loop.where.words), item_step(reading, stock, serial, loop.where.left.parts[1])]
    return steps + [place_step(reading, file, path[:-1] + right.parts) for right in right_paths(loop.where)]


def rows_steps(reading, thing):
    """The steps of rows: the list, and whether each item of it is shown."""
    file, path = thing[1]
    loop, stock = reading.loop_at(file, path)
    serials = reading.stored.serials(stock.file, stock.name)
    steps = [("list", stock.file, stock.name, serials)]
    if loop.where is not None:
        conditions = [("where", thing[1], serial) for serial in serials]
        steps += [("read", condition, worth_of(reading, condition)) for condition in conditions]
    return steps
