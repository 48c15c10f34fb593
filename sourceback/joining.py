"""Merging what two histories made of the outputs of a state that they have in common."""

from sourceback.areas import place_now
from sourceback.errors import Clash
from sourceback.fates import Named
from sourceback.following import followed
from sourceback.meeting import Meeting
from sourceback.outputs import Outputs
from sourceback.weaving import Weaver


def joined_edit(here, there):
    """An edit of the last project here that wishes what both sides changed since the first one, too; raises Clash.

    Each side has its projects, the first of which is the same, and the edits that were made in all but the last.
    """
    projects, edits = here
    meeting = Meeting(Named(Outputs(projects[0])), followed(projects, edits), followed(there[0], there[1]))
    pairs = meeting.pairs()
    if pairs:
        first, second = pairs[0]
        raise Clash(first, second)
    outputs = Outputs(projects[-1])
    areas = {place_now(area, ()): area for area in outputs.areas()}
    known = {}
    twins = {}
    for area in meeting.one.outputs.areas():
        twin = areas[place_now(area, ())]
        if area.name is None:
            twins[area] = twin
        else:
            known[twin] = area.name
    joiner = Joiner(outputs, known, meeting)
    joiner.twins = twins
    return joiner.edit([meeting.other])


class Joiner(Weaver):
    """Finds the steps for outputs in which all that the one side changed is made already."""

    def __init__(self, outputs, known, meeting):
        super().__init__(outputs, known, meeting)
        # The new serials by (file, list, serial there).
        self.renumbered = {}

    def serial_of(self, side, row):
        """The serial of a row that comes: a new one for an item that is new there, or gone here."""
        file, name = row.stack.stock
        if not self.meeting.is_new(row.stack, row.serial) and row.serial in self.outputs.stored.serials(file, name):
            return row.serial
        key = (file, name, row.serial)
        if key not in self.renumbered:
            self.renumbered[key] = self.outputs.next_of((file, name))
        return self.renumbered[key]
