"""Places, their levels, and what the sources say at a spot."""

from sourceback.errors import NoPlace, NoSpot
from sourceback.layers import is_expression, pattern_of
from sourceback.reading import Reading, all_found, found_at
from sourceback.spots import is_spot, value_at


def places(project):
    """The visible places, ascending."""
    found = all_found(Reading(project))
    return tuple(sorted([place.spelled for place in found if not place.is_rows and not place.hidden]))


def hidden_places(project):
    """The places that are not visible, ascending."""
    found = all_found(Reading(project))
    return tuple(sorted([place.spelled for place in found if not place.is_rows and place.hidden]))


def rows_places(project):
    """The rows places that are not hidden, ascending."""
    found = all_found(Reading(project))
    return tuple(sorted([place.spelled for place in found if place.is_rows and not place.hidden]))


def levels(project, place):
    """The spots at which a place is told, the outermost one first."""
    found = found_at(Reading(project), place)
    if found is None or found.is_rows:
        raise NoPlace(place)
    file, path = place
    return tuple([level.spot for level in project.sources.layers[(file, pattern_of(path))]])


def definition(project, spot):
    """What the sources say at a spot: a literal, an expression, or None."""
    if not is_spot(project, spot):
        raise NoSpot(spot)
    value = value_at(project, spot)
    if value is None:
        return None
    return ("expression", value.words) if is_expression(value) else ("literal", value.worth)
