"""Merging two edits of one project by what they wish."""

from sourceback.edits import outputs_of
from sourceback.errors import Clash
from sourceback.fates import Named
from sourceback.meeting import Meeting
from sourceback.outputs import Outputs
from sourceback.weaving import Weaver


def changes(project, edit):
    """The rows, rows places and values that an edit changes, by their names, ascending."""
    after = Named(outputs_of(project, edit))
    return tuple(after.changes(Named(Outputs(project))))


def clashes(project, one, other):
    """Go through the pairs of changes that cannot both be made, ascending."""
    for pair in meeting_of(project, one, other).pairs():
        yield pair


def merged(project, one, other):
    """An edit that wishes what both edits change; raises Clash."""
    meeting = meeting_of(project, one, other)
    pairs = meeting.pairs()
    if pairs:
        first, second = pairs[0]
        raise Clash(first, second)
    outputs = Outputs(project)
    names = {area: area.name for area in outputs.areas()}
    return Weaver(outputs, names, meeting).edit([meeting.one, meeting.other])


def meeting_of(project, one, other):
    """What two edits leave; raises what stands against the one, then what stands against the other."""
    sides = [Named(outputs_of(project, edit)) for edit in (one, other)]
    return Meeting(Named(Outputs(project)), sides[0], sides[1])
