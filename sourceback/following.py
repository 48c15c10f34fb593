"""Outputs followed through several edits, as if one edit had left them so."""

from sourceback.areas import name_of
from sourceback.fates import Named
from sourceback.outputs import Outputs


def followed(projects, edits):
    """What edits leave, each made in the project at its index, by the names in the first project."""
    outputs = Outputs(projects[0])
    for project, edit in zip(projects, edits):
        outputs.begin(project)
        for step in edit:
            outputs.make(step)
    Naming(outputs, Named(Outputs(projects[0]))).name_rows()
    outputs.puts = [area for area in outputs.areas() if area.name is None]
    return Named(outputs)


class Naming:
    """Names the rows of outputs as if one edit had left them.

    A row that stands where a row of its item stood is that row, however it came there. Another one keeps
    the name that it had, unless that is given already. Names are given from the outside to the inside.
    """

    def __init__(self, outputs, before):
        self.before = before
        self.held = {area: area.name for area in outputs.areas()}
        self.given = {}

    def name_rows(self):
        """Name all rows."""
        for area in self.held:
            area.name = area.name if area.serial is None else None
            for stack in area.stacks.values():
                stack.began = ()
        depths = [row_depth(name) for name in self.held.values() if name is not None]
        for depth in range(max(depths) + 1 if depths else 0):
            for area in self.held:
                if area.name is not None and row_depth(area.name) == depth:
                    self.name_standing(area)
            for area, name in self.held.items():
                if area.name is None and name is not None and row_depth(name) == depth + 1 and name not in self.given:
                    self.give(area, name)

    def name_standing(self, area):
        """Name the rows within a named area that stand where rows of their items stood."""
        for path, stack in area.stacks.items():
            file, around = name_of(area, path)
            stack.began = self.before.stacks[(file, around)].shows()
            for row in stack.rows:
                if row.serial in stack.began:
                    self.give(row, (file, around + (row.serial,)))

    def give(self, area, name):
        """Give a row a name."""
        area.name = name
        self.given[name] = area


def row_depth(name):
    """Over how many rows a name leads."""
    _, path = name
    return len([part for part in path if isinstance(part, int)])
