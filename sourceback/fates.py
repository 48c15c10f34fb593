"""The names of what is in the outputs that an edit leaves, the fates of rows, and the changes."""

from sourceback.areas import name_of, row_name

STAYS = ("stays",)
TAKEN = ("taken",)
# Within a row that was put in, where nothing else has a name.
UNNAMED = ("carried", None)


class Named:
    """The areas, values and stacks of outputs, by their names."""

    def __init__(self, outputs):
        self.outputs = outputs
        self.rows = {}
        self.worths = {}
        self.stacks = {}
        for area in outputs.areas():
            if area.name is not None:
                self.add_area(area)

    def add_area(self, area):
        """Take in a document or a row that has a name."""
        if area.serial is not None:
            self.rows[row_name(area)] = area
        for path, worth in area.worths.items():
            self.worths[name_of(area, path)] = worth
        for path, stack in area.stacks.items():
            self.stacks[name_of(area, path)] = stack

    def fate(self, name):
        """What became of a row of the project; None if it was within a row that is nowhere."""
        row = self.rows.get(name)
        if row is None:
            return None if [outer for outer in rows_around(name[0]) if outer not in self.rows] else TAKEN
        place = name_of(row.stack.area, row.stack.path)
        return STAYS if place == name[0] else ("carried", place)

    def changes(self, before):
        """What is another one than in the outputs of the project, ascending."""
        found = [("row",) + name for name in before.rows if self.fate(name) not in (None, STAYS)]
        found += [("rows", place) for place, stack in self.stacks.items() if stack.shows() != stack.began]
        found += [("value", place) for place, worth in self.worths.items() if worth != before.worths[place]]
        return sorted(found)


def rows_around(place):
    """The names of the rows around what is named by a place, the outermost one first."""
    file, path = place
    return [((file, path[:at]), part) for at, part in enumerate(path) if isinstance(part, int)]
