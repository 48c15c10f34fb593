"""A second way to follow what several edits make of outputs, with dicts by places as in editing.

Each edit is known to be one that can be made, so steps are made without asking.
"""

from editing import Both, Flat, Rows, below


class Course(Flat):
    """What edits leave, one behind the other, as if one edit had left it."""

    def __init__(self, ground, edits):
        super().__init__(ground)
        for edit in edits:
            for step in edit:
                getattr(self, "do_" + step[0])(*step[1:])
        self.settle()

    def do_set(self, place, value):
        assert place in self.values
        self.values[place] = value

    def do_take(self, place, serial):
        self.move(below(place, serial), None)
        self.rows[place].remove(serial)

    def do_put(self, place, index, serial, record):
        self.rows[place].insert(index, serial)
        self.names[below(place, serial)] = None
        self.note(self.kinds[place], serial, record)
        self.spread(self.kinds[place].record, record, place[0], place[1] + (serial,), True)

    def note(self, kind, serial, record):
        """Keep in mind which serials were given to new items."""
        self.nexts[kind.items] = max(self.nexts[kind.items], serial + 1)
        for (_, inner), (_, part) in zip(kind.record, record):
            if isinstance(inner, Rows):
                for other, row in part:
                    self.note(inner, other, row)

    def do_carry(self, place, serial, other, index):
        self.rows[place].remove(serial)
        self.rows[other].insert(index, serial)
        if place != other:
            self.move(below(place, serial), below(other, serial))

    def settle(self):
        """Name what stands where a row of its item stood; others keep their names, unless these are given."""
        held, self.names = self.names, {row: None for row in self.names}
        for depth in range(1, 8):
            for row in held:
                place = self.name((row[0], row[1][:-1]))
                if place is not None and count(place) == depth - 1 and row[1][-1] in self.start.get(place, ()):
                    self.names[row] = (place, row[1][-1])
            given = set(self.names.values())
            for row, name in held.items():
                if self.names[row] is None and name is not None and count(name[0]) == depth - 1 and name not in given:
                    self.names[row] = name


def count(place):
    return len([part for part in place[1] if isinstance(part, int)])


def merged_outputs(ground, here, there):
    """The first pair of changes that clash, or the outputs of all documents without serials."""
    both = Both(ground, Course(ground, here), Course(ground, there))
    pairs = both.clashes()
    if pairs:
        return pairs[0], None
    values, rows = map(dict, both.wish())
    return None, {file: nested(record, values, rows, (file, ())) for file, record in ground.documents.items()}


def nested(record, values, rows, place):
    found = []
    for name, kind in record:
        here = below(place, name)
        if isinstance(kind, Rows):
            part = tuple(nested(kind.record, values, rows, below(here, serial)) for serial in rows[here])
        else:
            part = nested(kind, values, rows, here) if isinstance(kind, list) else values[here]
        found.append((name, part))
    return tuple(found)


def is_one_edit(ground, edits):
    """Whether all steps can be made as one edit."""
    flat = Flat(ground)
    return all(flat.make(step) is None for edit in edits for step in edit)
