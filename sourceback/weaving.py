"""The steps of a merged edit."""

from sourceback.areas import place_now, record_now


class Weaver:
    """Finds steps with the wish of a merged edit by making them, one behind the other, in some outputs.

    Rows are put in first, each by itself, so that new items come in the order of their serials. Then rows are
    carried, each behind what is in order already. What is then left over is taken, and values are set at last.
    A row that two edits leave is known by its area there; its twin is its area in the outputs here.
    """

    def __init__(self, outputs, names, meeting):
        self.meeting = meeting
        self.outputs = outputs
        # The names of the areas here that have one, and these areas by their names.
        self.known = names
        self.named = {name: area for area, name in names.items()}
        # The twins of rows without a name.
        self.twins = {}
        # The rows that are wished in each stack, and the twins that are in order there.
        self.wanted = {}
        self.settled = {}
        self.steps = []

    def edit(self, sides):
        """The edit, for which the rows that are put in come from some of the sides."""
        for area, (file, path) in self.known.items():
            for within, stack in area.stacks.items():
                if self.meeting.stays((file, path + within)):
                    self.want(stack, self.meeting.rows_at((file, path + within)))
        for side in sides:
            self.put_rows(side)
        self.carry_rows()
        self.take_rows()
        self.set_values()
        return tuple(self.steps)

    def make(self, step):
        """Make one more step."""
        self.outputs.make(step)
        self.steps.append(step)

    def twin(self, area):
        """The area here of a document or row that an edit leaves, None if it is not put in yet."""
        return self.twins.get(area) if area.name is None else self.named[area.name]

    def want(self, stack, rows):
        """Wish rows in a stack; those that can keep their places are in order."""
        self.wanted[stack] = rows
        last = -1
        for row in rows:
            twin = self.twin(row)
            if twin in stack.rows and stack.rows.index(twin) > last:
                last = stack.rows.index(twin)
                self.settled[twin] = True

    def index_for(self, stack, row):
        """The index behind those rows in order that are wished ahead of a row."""
        others = [area for area in stack.rows if area != self.twin(row)]
        index = 0
        for ahead in self.wanted[stack]:
            if ahead == row:
                break
            if self.twin(ahead) in self.settled:
                index = others.index(self.twin(ahead)) + 1
        return index

    def put_rows(self, side):
        """Put in the rows that one of both edits puts in."""
        for row in list(side.outputs.puts):
            around = self.twin(row.stack.area)
            # Where both edits put in the very same rows, only those of the one come.
            if around is not None and row in self.wanted[around.stacks[row.stack.path]]:
                self.add_row(around.stacks[row.stack.path], row, self.serial_of(side, row))

    def serial_of(self, side, row):
        """The serial that a row of one of both edits gets."""
        is_new = self.meeting.is_new(row.stack, row.serial)
        return row.serial + (self.meeting.shift(row.stack) if is_new and side == self.meeting.other else 0)

    def add_row(self, stack, row, serial):
        """Put in a row, without those in it."""
        place = place_now(stack.area, stack.path)
        record = record_now(self.outputs.sources, row, row.base, (), False)
        self.make(("put", place, self.index_for(stack, row), serial, record))
        twin = stack.row_at(serial)
        self.twins[row] = twin
        self.settled[twin] = True
        for path, inner in row.stacks.items():
            self.want(twin.stacks[path], inner.rows)

    def carry_rows(self):
        """Carry the rows that are not in order yet."""
        for stack, rows in self.wanted.items():
            for row in rows:
                twin = self.twin(row)
                if twin not in self.settled:
                    start = place_now(twin.stack.area, twin.stack.path)
                    place = place_now(stack.area, stack.path)
                    self.make(("carry", start, twin.serial, place, self.index_for(stack, row)))
                    self.settled[twin] = True

    def take_rows(self):
        """Take the rows that are left over."""
        for stack, rows in self.wanted.items():
            kept = [self.twin(row) for row in rows]
            for left in [area for area in stack.rows if area not in kept]:
                self.make(("take", place_now(stack.area, stack.path), left.serial))

    def set_values(self):
        """Set the values that one of both edits changed."""
        for area in self.outputs.areas():
            if area in self.known:
                file, around = self.known[area]
                for path, worth in list(area.worths.items()):
                    wished = self.meeting.wished_at((file, around + path))
                    if wished != worth:
                        self.make(("set", place_now(area, path), wished))
