"""Where two edits of one project clash, and what they wish together if they do not."""

from sourceback.fates import UNNAMED, TAKEN, rows_around


class Meeting:
    """What is named in the outputs of a project, and in those that each of two edits leaves."""

    def __init__(self, before, one, other):
        self.before = before
        self.one = one
        self.other = other

    def pairs(self):
        """The pairs of changes that clash, ascending."""
        others = self.other.changes(self.before)
        found = []
        for first in self.one.changes(self.before):
            found += [(first, second) for second in others if self.clash(first, second)]
        return found

    def clash(self, first, second):
        """Tell whether a change of the one edit and one of the other clash."""
        if first != second:
            return takes(self.one, first, second) or takes(self.other, second, first)
        if first[0] == "value":
            return self.one.worths[first[1]] != self.other.worths[first[1]]
        if first[0] == "rows":
            return self.rows_clash(self.one.stacks[first[1]], self.other.stacks[first[1]])
        fate = self.one.fate(first[1:])
        return fate != self.other.fate(first[1:]) or fate == UNNAMED

    def rows_clash(self, one, other):
        """Tell whether the rows at a rows place clash that both edits changed."""
        came = [serial for serial in arrivals(one) if serial in arrivals(other)]
        together = [serial for serial in came if not self.is_new(one, serial)]
        if keeps_order(one) and keeps_order(other) and not together:
            return False
        return not self.same_rows(one, other)

    def same_rows(self, one, other):
        """Tell whether both edits wish the very same rows, without a new item, which each has for itself."""
        if one.shows() != other.shows() or any([self.is_new(one, serial) for serial in one.shows()]):
            return False
        return all([self.same_row(row, twin) for row, twin in zip(one.rows, other.rows)])

    def same_row(self, one, other):
        """Tell whether two rows have one name, or were both put in with the same in them."""
        if one.name is None and other.name is None:
            return self.same_within(one, other)
        return one.name == other.name

    def same_within(self, one, other):
        """Tell whether two rows of one template have the same values and rows."""
        return one.worths == other.worths and all([
            self.same_rows(stack, other.stacks[path]) for path, stack in one.stacks.items()])

    def is_new(self, stack, serial):
        """Tell whether a serial is that of an item that the project has not had."""
        return serial >= self.before.outputs.next_of(stack.stock)

    def shift(self, stack):
        """How many new items the one edit has, behind which those of the other one come."""
        return self.one.outputs.next_of(stack.stock) - self.before.outputs.next_of(stack.stock)

    def stays(self, place):
        """Tell whether a rows place is still there in both."""
        return place in self.one.stacks and place in self.other.stacks

    def rows_at(self, place):
        """The rows that are wished at a rows place, as areas of the one edit or the other."""
        one = self.one.stacks[place]
        other = self.other.stacks[place]
        if other.shows() == other.began:
            return one.rows
        if one.shows() == one.began:
            return other.rows
        return one.rows if self.same_rows(one, other) else woven(one, other)

    def wished_at(self, place):
        """The value that is wished at a place that is still there in both."""
        worth = self.one.worths[place]
        return self.other.worths[place] if worth == self.before.worths[place] else worth


def takes(named, change, other):
    """Tell whether a change is a row that is taken, and another change is named within it."""
    return change[0] == "row" and named.fate(change[1:]) == TAKEN and change[1:] in rows_around(other[1])


def arrivals(stack):
    """The serials of the rows that came."""
    return [serial for serial in stack.shows() if serial not in stack.began]


def keeps_order(stack):
    """Tell whether the rows that still stand there have the order of the project."""
    left = [serial for serial in stack.shows() if serial in stack.began]
    return left == [serial for serial in stack.began if serial in left]


def woven(one, other):
    """The rows of two stacks: those that are left in both, each with those that came behind it."""
    gaps = rows_by_gap(one)
    more = rows_by_gap(other)
    found = gaps.get(None, []) + more.get(None, [])
    for serial in one.began:
        row = one.row_at(serial)
        if row is not None and other.row_at(serial) is not None:
            found.append(row)
        # What came to a gap comes there also if the row of the gap is gone.
        found += gaps.get(serial, []) + more.get(serial, [])
    return found


def rows_by_gap(stack):
    """The rows that came, by the serial of the last row ahead of them that stood there, or None."""
    gaps = {}
    gap = None
    for row in stack.rows:
        if row.serial in stack.began:
            gap = row.serial
        else:
            gaps.setdefault(gap, []).append(row)
    return gaps
