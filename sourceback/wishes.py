"""What an edit wishes: values, rows, and how the items of all lists stand."""

from sourceback.edits import outputs_of
from sourceback.reading import Reading, all_found
from sourceback.standing import Items


class Wish:
    """The wish of an edit of a project, some files of which are locked.

    worths has the value of each visible place, rows the serials of each rows place, standings the
    Items of each list by (file, list), all ascending.
    """

    def __init__(self, project, edit, locked):
        self.stored = project
        self.sources = project.sources
        self.locked = locked
        self.outputs = outputs_of(project, edit)
        values, rows = self.outputs.wish()
        self.worths = {place: value for place, value in values}
        self.rows = {place: serials for place, serials in rows}
        self.reading = Reading(project)
        had = self.rows_now()
        self.standings = {}
        for file, name in project.lists():
            self.standings[(file, name)] = self.items_of((file, name), had.get((file, name), {}))

    def rows_now(self):
        """The items of each list that have a row now, by (file, list)."""
        found = {}
        for place in all_found(self.reading):
            if place.is_rows and not place.hidden:
                file, path = place.spelled
                held = found.setdefault(self.list_at(place.spelled), {})
                for serial in self.reading.shown_at(file, path):
                    held[serial] = True
        return found

    def list_at(self, rows_place):
        """The (file, list) of the items of a rows place."""
        file, path = rows_place
        _, stock = self.reading.loop_at(file, path)
        return (stock.file, stock.name)

    def items_of(self, key, had):
        """The Items of a list, of which some have a row now."""
        file, name = key
        tuples = {place: serials for place, serials in self.rows.items() if self.list_at(place) == key}
        wished = {serial: True for serials in tuples.values() for serial in serials}
        now = self.stored.serials(file, name)
        leaving = [serial for serial in now if serial in had and serial not in wished and file not in self.locked]
        return Items(now, tuples, leaving, self.stored.next_serial(file, name))

    def refusal(self):
        """The word and the paper of the first refusal for what is wished of rows, or None."""
        for (file, name), items in self.standings.items():
            if file in self.locked and (items.arriving or items.has_clash() or items.circle() is not None):
                return ("locked", (file, name))
        circling = self.circling()
        if circling is not None:
            return ("order", circling.circle())
        missing = self.first_missing()
        return None if missing is None else ("shown", missing)

    def new_orders(self):
        """The new orders of the lists that change, by (file, list)."""
        return {key: items.order() for key, items in self.standings.items() if items.is_changed()}

    def circling(self):
        """The Items of the first list of which one stands ahead of itself, or None."""
        found = [items for items in self.standings.values() if items.circle() is not None]
        return found[0] if found else None

    def first_missing(self):
        """The first rows place that shows all items and lacks one, with the least such serial, or None."""
        for place, serials in self.rows.items():
            file, path = place
            loop, stock = self.reading.loop_at(file, path)
            items = self.standings[(stock.file, stock.name)]
            missing = [serial for serial in items.staying + items.arriving if serial not in serials]
            if loop.where is None and missing:
                return (place, min(missing))
        return None
