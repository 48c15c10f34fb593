"""Making the steps of an edit in the outputs of all documents."""

from sourceback.areas import Filler, place_now, record_now, rows_within
from sourceback.errors import StepError
from sourceback.kinds import Kinds
from sourceback.records import Fitting, fits_kind
from sourceback.values import labelled


class Outputs:
    """The labelled outputs of a project, and what the steps that were made have left of them.

    Behind a step that cannot be made they are no longer of use.
    """

    def __init__(self, project):
        self.stored = project
        self.sources = project.sources
        self.sheets = {}
        filler = Filler(project.sources, False)
        for file in project.documents:
            owner = project.sources.trees[file].document
            self.sheets[file] = filler.make_document(owner, labelled(project, file))
        # The serial that the next new item gets, for each list that has got new ones.
        self.nexts = {}
        # The rows that were put in, also within others, in the order in which they came.
        self.puts = []
        self.done = 0

    def begin(self, project):
        """Let another edit begin, when these are the outputs of a project that was led back."""
        self.stored = project
        self.nexts = {}
        self.puts = []
        self.done = 0
        for area in self.areas():
            area.fresh = False
            area.renewed = {}
            for stack in area.stacks.values():
                stack.gone = {}

    def make(self, step):
        """Make a step; raises StepError."""
        word = self.hindrance(step)
        if word is not None:
            raise StepError(self.done, word)
        self.done += 1

    def hindrance(self, step):
        """Make a step, or tell the word for why it cannot be made."""
        if step[0] == "set":
            return self.set_value(step[1], step[2])
        if step[0] == "take":
            return self.take_row(step[1], step[2])
        if step[0] == "put":
            return self.put_row(step[1], step[2], step[3], step[4])
        return self.carry_row(step[1:3], step[3], step[4])

    def set_value(self, place, value):
        """Give a place a value."""
        area, path = self.area_at(place)
        if area is None or path not in area.worths:
            return "place"
        if not fits_kind("number" if isinstance(area.worths[path], int) else "text", value):
            return "kind"
        if area.fresh or path in area.renewed:
            return "twice"
        area.worths[path] = value
        area.renewed[path] = True
        return None

    def take_row(self, rows_place, serial):
        """Take a row away."""
        stack = self.stack_at(rows_place)
        if stack is None:
            return "place"
        row = stack.row_at(serial)
        if row is None or any([inner.fresh for inner in rows_within(row)]):
            return "serial"
        self.send_off(row)
        return None

    def put_row(self, rows_place, index, serial, record):
        """Put a row in."""
        stack = self.stack_at(rows_place)
        if stack is None:
            return "place"
        if not Fitting(self.sources, Kinds(self.sources)).is_record(stack.base, record):
            return "kind"
        row = Filler(self.sources, True).make_row(stack, serial, record)
        rows = rows_within(row)
        if not stack.lets_in(serial) or not all([self.can_come(inner) for inner in rows]):
            return "serial"
        if index > len(stack.rows):
            return "index"
        stack.rows.insert(index, row)
        self.puts += rows
        return None

    def carry_row(self, start, rows_place, index):
        """Carry a row, told by a rows place and a serial, to a rows place."""
        stack = self.stack_at(start[0])
        other = self.stack_at(rows_place)
        row = None if stack is None else stack.row_at(start[1])
        if stack is None or other is None or other.area.is_within(row):
            return "place"
        if (stack.stock, stack.template) != (other.stock, other.template):
            return "rows"
        if row is None or row.fresh or (stack != other and not other.lets_in(row.serial)):
            return "serial"
        if index > len(other.rows) - (1 if stack == other else 0):
            return "index"
        self.send_off(row)
        other.rows.insert(index, row)
        row.stack = other
        return None

    def send_off(self, row):
        """Take a row out of its stack, to which no other row of this item can come any more."""
        row.stack.rows.remove(row)
        row.stack.gone[row.serial] = True

    def can_come(self, row):
        """Tell whether the item of a row that comes is there or the next new one, which it then is."""
        shows = [stack.shows() for stack in row.stacks.values()]
        if any([len(set(serials)) < len(serials) for serials in shows]):
            return False
        file, name = row.stack.stock
        if row.serial == self.next_of(row.stack.stock):
            self.nexts[row.stack.stock] = row.serial + 1
            return True
        return row.serial in self.stored.serials(file, name) or self.came_new(row)

    def came_new(self, row):
        """Tell whether a row is one of a new item that came."""
        file, name = row.stack.stock
        return self.stored.next_serial(file, name) <= row.serial < self.next_of(row.stack.stock)

    def next_of(self, stock):
        """The serial that the next new item of a list gets."""
        return self.nexts.get(stock, self.stored.next_serial(stock[0], stock[1]))

    def area_at(self, place):
        """The area in which a place is, and the path within it; the area is None if there is none."""
        file, path = place
        area = self.sheets.get(file)
        within = ()
        for part in path:
            if isinstance(part, str):
                within = within + (part,)
            else:
                stack = None if area is None else area.stacks.get(within)
                area = None if stack is None else stack.row_at(part)
                within = ()
        return area, within

    def stack_at(self, rows_place):
        """The stack at a rows place, or None."""
        area, path = self.area_at(rows_place)
        return None if area is None else area.stacks.get(path)

    def areas(self):
        """The documents and all rows."""
        return [area for sheet in self.sheets.values() for area in rows_within(sheet)]

    def wish(self):
        """The values of all places and the serials of all rows places, ascending."""
        values = []
        rows = []
        for area in self.areas():
            values += [(place_now(area, path), area.worths[path]) for path in area.worths]
            rows += [(place_now(area, path), area.stacks[path].shows()) for path in area.stacks]
        return (tuple(sorted(values)), tuple(sorted(rows)))

    def record(self, file):
        """The labelled output of a document."""
        area = self.sheets[file]
        return record_now(self.sources, area, area.base, (), True)
