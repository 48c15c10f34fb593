"""The writer: makes deeds in the texts of files and touches nothing else."""

from sourceback.numerals import numeral
from sourceback.pages import Page
from sourceback.spots import value_at
from sourceback.trees import Body, Loop, Record


def written_files(project, deeds):
    """The files of a project with some deeds."""
    return tuple([(file, Writer(project, deeds, file).written()) for file in project.names])


def literal_text(worth):
    """A number or string as it stands in a file."""
    return f'"{worth}"' if isinstance(worth, str) else numeral(worth)


class Writer:
    """Makes all deeds in the text of one file.

    A holder is a body to which entries come, or the name of a template where it is used without a body.
    """

    def __init__(self, project, deeds, file):
        self.stored = project
        self.deeds = deeds
        self.file = file
        self.page = Page(project[file])
        # The names of the entries that go, by their bodies.
        self.going = {}
        # What comes, by the holders: literals by what is left of the path there.
        self.coming = {}

    def written(self):
        """The new text."""
        for spot in self.deeds.gones:
            if spot[0] == self.file:
                self.take_entry(spot)
        for spot, worth in self.deeds.sets.items():
            if spot[0] == self.file and not self.is_fresh(spot):
                self.set_literal(spot, worth)
        for holder in self.coming:
            self.add_entries(holder)
        for (file, name), serials in self.deeds.orders.items():
            if file == self.file:
                self.write_list(name, serials)
        return self.page.part(0, len(self.page.old))

    def is_fresh(self, spot):
        """Tell whether a spot is that of a new item, which is written with its list."""
        file, name, path = spot
        return self.stored.has_list(file, name) and path[0] >= self.stored.next_serial(file, name)

    def take_entry(self, spot):
        """Take an entry away, with the blanks and line feeds ahead of it."""
        body, rest = self.deepest(spot)
        entry = body.named[rest[0]]
        self.going.setdefault(body, []).append(entry)
        self.page.change(self.page.gap_at(entry.index), self.page.entry_end(body, entry), "")

    def set_literal(self, spot, worth):
        """Write a literal in the place of another one, or keep it as one that comes."""
        value = value_at(self.stored, spot)
        if value is None:
            holder, rest = self.deepest(spot)
            self.coming.setdefault(holder, {})[rest] = worth
        else:
            self.page.change(value.index, self.page.literal_end(value), literal_text(worth))

    def deepest(self, spot):
        """The deepest holder that stands for the beginning of a path, and the rest of the path."""
        file, name, path = spot
        holder = self.stored.sources.owner_at(file, name).body
        while isinstance(holder, Body) and path[0] in holder.named:
            value = holder.named[path[0]].value
            if isinstance(value, (Record, Loop)):
                holder = value.template if value.body is None else value.body
            elif isinstance(value, Body):
                holder = value
            else:
                break
            path = path[2:] if isinstance(value, Loop) else path[1:]
        return holder, path

    def add_entries(self, holder):
        """Write the entries that come to a holder."""
        text = entries_text(self.coming[holder])
        if not isinstance(holder, Body):
            end = self.page.end_at(holder.index)
            self.page.change(end, end, " { " + text + " }")
            return
        gone = self.going.get(holder, [])
        left = [entry for entry in holder.entries if entry not in gone]
        if left:
            end = self.page.entry_end(holder, left[-1])
            self.page.change(end, end, " " + text)
        else:
            start = self.page.end_at(holder.index)
            inside = self.page.part(start, self.page.closing[holder.index])
            self.page.change(start, start, " " + text + ("" if inside else " "))

    def write_list(self, name, serials):
        """Write the items of a list in another order, each with the text ahead of it."""
        stock = self.stored.sources.known_stock(self.file, name)
        old = self.stored.serials(self.file, name)
        parts = []
        for serial in serials:
            if serial in old:
                item = stock.goods[old.index(serial)]
                parts.append(self.page.part(self.page.end_ahead(item.index), self.page.body_end(item)))
            else:
                parts.append(" " + self.item_text(stock, serial))
        start = self.page.end_at(self.page.next_sign(stock.index, "["))
        end = self.page.body_end(stock.goods[-1]) if stock.goods else start
        if not stock.goods and self.page.old[end] == "]":
            parts.append(" ")
        self.page.rewrite(start, end, "".join(parts))

    def item_text(self, stock, serial):
        """A new item."""
        worths = [(field, self.deeds.sets[(self.file, stock.name, (serial, field))]) for field in stock.kinds()]
        return " ".join(["{"] + [f"{field}: {literal_text(worth)}" for field, worth in worths] + ["}"])


def entries_text(worths):
    """Entries with single blanks between: literals by paths, with those of one first name together."""
    parts = []
    for name in sorted(set([path[0] for path in worths])):
        if (name,) in worths:
            parts.append(f"{name}: {literal_text(worths[(name,)])}")
        else:
            inner = {path[1:]: worths[path] for path in worths if path[0] == name}
            parts.append(" ".join([f"{name}:", "{", entries_text(inner), "}"]))
    return " ".join(parts)
