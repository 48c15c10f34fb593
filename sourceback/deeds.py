"""The deeds of a plan: their form, and whether they can be done."""

from sourceback.records import fits_kind
from sourceback.shapes import is_part, is_serial, is_spot_shaped
from sourceback.spots import Spots, is_spot, own_stock, value_at


class Deeds:
    """The deeds of a plan: the literals that are set and the spots that lose theirs, the orders by (file, list)."""

    def __init__(self, plan):
        self.sets = {deed[1]: deed[2] for deed in plan if deed[0] == "set"}
        self.gones = {deed[1]: True for deed in plan if deed[0] == "gone"}
        self.orders = {deed[1:3]: deed[3] for deed in plan if deed[0] == "order"}


def new_serials(project, file, name, serials):
    """Those of some serials that a list has never given."""
    return [serial for serial in serials if serial >= project.next_serial(file, name)]


def new_spots(project, orders):
    """The spots of the items that orders bring: each field of each new item."""
    found = {}
    for (file, name), serials in orders.items():
        fields = list(project.sources.known_stock(file, name).kinds())
        for serial in new_serials(project, file, name, serials):
            for field in fields:
                found[(file, name, (serial, field))] = True
    return found


def are_deeds(value):
    """Tell whether any value is a tuple of deeds by their form."""
    return isinstance(value, tuple) and all([is_deed(deed) for deed in value])


def is_deed(value):
    """Tell whether any value is a deed by its form."""
    if not isinstance(value, tuple) or value == () or not isinstance(value[0], str):
        return False
    if value[0] == "set":
        return len(value) == 3 and is_spot_shaped(value[1]) and is_part(value[2])
    if value[0] == "gone":
        return len(value) == 2 and is_spot_shaped(value[1])
    if value[0] != "order" or len(value) != 4 or not isinstance(value[3], tuple):
        return False
    return isinstance(value[1], str) and isinstance(value[2], str) and all([is_serial(part) for part in value[3]])


class Planner:
    """Tells which deeds can be done in a project with some locked files."""

    def __init__(self, project, locked):
        self.stored = project
        self.spots = Spots(project, locked)

    def is_plan(self, value):
        """Tell whether any value is a plan."""
        if not are_deeds(value):
            return False
        deeds = Deeds(value)
        if len(deeds.sets) + len(deeds.gones) + len(deeds.orders) < len(value):
            return False
        if not all([self.can_order(key[0], key[1], deeds.orders[key]) for key in deeds.orders]):
            return False
        fresh = new_spots(self.stored, deeds.orders)
        if not all([spot in deeds.sets for spot in fresh]) or any([spot in deeds.sets for spot in deeds.gones]):
            return False
        if not all([self.can_set(deeds, fresh, spot) for spot in deeds.sets]):
            return False
        if not all([is_spot(self.stored, spot) and self.spots.can_go(spot) for spot in deeds.gones]):
            return False
        # Only now all spots and lists are known to be there, and so to be comparable.
        return tuple(sorted(value)) == value

    def can_order(self, file, name, serials):
        """Tell whether a list can be given another order, with items left out and new ones."""
        if own_stock(self.stored, file, name) is None or file in self.spots.locked:
            return False
        old = self.stored.serials(file, name)
        if serials == old or len(set(serials)) < len(serials):
            return False
        fresh = new_serials(self.stored, file, name, serials)
        first = self.stored.next_serial(file, name)
        if sorted(fresh) != list(range(first, first + len(fresh))):
            return False
        return all([serial in old or serial in fresh for serial in serials])

    def can_set(self, deeds, fresh, spot):
        """Tell whether a spot, perhaps one of the fresh ones of new items, can be given its literal."""
        worth = deeds.sets[spot]
        if spot in fresh:
            file, name, path = spot
            return fits_kind(self.stored.sources.known_stock(file, name).kinds()[path[1]], worth)
        if not is_spot(self.stored, spot) or not self.spots.is_open(spot):
            return False
        serials = deeds.orders.get(spot[:2])
        if serials is not None and spot[2][0] not in serials:
            return False
        old = value_at(self.stored, spot)
        return fits_kind(self.spots.kind_at(spot), worth) and (old is None or old.worth != worth)
