"""Places, their levels, and what the sources say at a spot."""

from sourceback.errors import NoPlace, NoSpot
from sourceback.layers import defined, is_expression, pattern_of, says
from sourceback.reading import Reading, all_found, found_at, is_part
from sourceback.trees import Loop, Record


def places(project):
    """The visible places, ascending."""
    found = all_found(Reading(project))
    return tuple(sorted([place.spelled for place in found if not place.is_rows and not place.hidden]))


def hidden_places(project):
    """The places that are not visible, ascending."""
    found = all_found(Reading(project))
    return tuple(sorted([place.spelled for place in found if not place.is_rows and place.hidden]))


def rows_places(project):
    """The rows places that are not hidden, ascending."""
    found = all_found(Reading(project))
    return tuple(sorted([place.spelled for place in found if place.is_rows and not place.hidden]))


def levels(project, place):
    """The spots at which a place is told, the outermost one first."""
    found = found_at(Reading(project), place)
    if found is None or found.is_rows:
        raise NoPlace(place)
    file, path = place
    return tuple([level.spot for level in project.sources.layers[(file, pattern_of(path))]])


def definition(project, spot):
    """What the sources say at a spot: a literal, an expression, or None."""
    if not is_spot(project, spot):
        raise NoSpot(spot)
    file, name, path = spot
    owner = project.sources.owner_at(file, name)
    if owner is not None:
        return shown_definition(defined(owner, path))
    stock = project.sources.known_stock(file, name)
    at = project.serials(file, name).index(path[0])
    return shown_definition(stock.goods[at].named[path[1]].value)


def shown_definition(value):
    """A literal or expression, or None, as definition returns it."""
    if value is None:
        return None
    return ("expression", value.text) if is_expression(value) else ("literal", value.worth)


def is_spot(project, value):
    """Tell whether any value is a spot."""
    if not is_spot_shaped(project, value):
        return False
    file, name, path = value
    owner = project.sources.owner_at(file, name)
    if owner is not None:
        return leads_to_simple(project.sources, owner, path) and says(owner, path)
    return has_field(project, file, project.sources.known_stock(file, name), path)


def is_spot_shaped(project, value):
    """Tell whether any value is a tuple of a file, a string and a path of strings and integers."""
    if not isinstance(value, tuple) or len(value) != 3:
        return False
    file, name, path = value
    if file not in project or not isinstance(name, str) or not isinstance(path, tuple):
        return False
    return all([is_part(part) for part in path])


def leads_to_simple(sources, owner, path):
    """Tell whether a path with "*" behind rows fields leads from an owner to a number or text."""
    base = sources.base_of(owner)
    at = 0
    while at < len(path):
        entry = base.body.named.get(path[at])
        if entry is None:
            return False
        at += 1
        if not isinstance(entry.value, (Record, Loop)):
            return at == len(path)
        if isinstance(entry.value, Loop):
            if at == len(path) or path[at] != "*":
                return False
            at += 1
        base = sources.inner(base, entry)
    return False


def has_field(project, file, stock, path):
    """Tell whether a path is a serial and a field of a list of this file."""
    if stock is None or stock.file != file or len(path) != 2:
        return False
    return path[0] in project.serials(file, stock.name) and path[1] in stock.kinds()
