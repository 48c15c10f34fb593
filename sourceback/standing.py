"""How the items of one list stand in a wish: which go and come, and what stands ahead of what."""

from sourceback.pairing import Pairing


class Items:
    """The items of a list in a wish.

    now has the serials of the list as it is, tuples those of the wish by their rows places, leaving the
    items that go; first_new is the next serial of the list.
    """

    def __init__(self, now, tuples, leaving, first_new):
        self.now = now
        self.tuples = tuples
        self.leaving = leaving
        self.staying = [serial for serial in now if serial not in leaving]
        # For each item those right behind it, with the first rows place where they are.
        self.links = {serial: {} for serial in self.staying}
        for place, serials in tuples.items():
            for at, serial in enumerate(serials):
                self.links.setdefault(serial, {})
                if at > 0:
                    self.links[serials[at - 1]].setdefault(serial, place)
        self.arriving = sorted([serial for serial in self.links if serial >= first_new])
        self.behind = {serial: self.all_behind(serial) for serial in self.links}
        self.above = {serial: self.clashing(serial) for serial in self.staying}

    def all_behind(self, start):
        """The items ahead of which one stands, with what led there first; itself only in a circle."""
        came = {}
        waiting = [start]
        while waiting:
            serial = waiting.pop(0)
            for other in self.links[serial]:
                if other not in came:
                    came[other] = serial
                    waiting.append(other)
        return came

    def clashing(self, serial):
        """The items that stay and are behind this one in the list, but ahead of it in the wish."""
        later = self.staying[self.staying.index(serial) + 1:]
        return [other for other in later if serial in self.behind[other]]

    def has_clash(self):
        """Tell whether two items clash."""
        return any([self.above[serial] != [] for serial in self.above])

    def is_changed(self):
        """Tell whether the list changes."""
        return self.leaving != [] or self.arriving != [] or self.has_clash()

    def road(self, start, end):
        """A shortest road from an item to another one, or back to itself."""
        came = self.behind[start]
        trail = [end, came[end]]
        while trail[-1] != start:
            trail.append(came[trail[-1]])
        trail.reverse()
        return tuple([(trail[at], self.links[trail[at]][trail[at + 1]]) for at in range(len(trail) - 1)])

    def circle(self):
        """A shortest circle, or None."""
        found = [self.road(serial, serial) for serial in self.links if serial in self.behind[serial]]
        lengths = [len(circle) for circle in found]
        return found[lengths.index(min(lengths))] if found else None

    def is_road(self, value, end):
        """Tell whether pairs of a serial and the form of a place lead to an item."""
        serials = [serial for serial, _ in value] + [end]
        return all([self.is_right_ahead(serials[at], serials[at + 1], value[at][1]) for at in range(len(value))])

    def is_right_ahead(self, serial, other, place):
        """Tell whether an item stands right ahead of another one at what may be a rows place."""
        serials = self.tuples.get(place, ())
        return serial in serials[:-1] and serials[serials.index(serial) + 1] == other

    def chains(self):
        """Chains that have each item that stays once, as few as there can be, ascending."""
        found = []
        for serials in Pairing(self.above).chains():
            roads = [self.road(serials[at + 1], serials[at]) for at in range(len(serials) - 1)]
            found.append((tuple(serials), tuple(roads)))
        return tuple(sorted(found))

    def keeping(self):
        """The items that keep their order, as many as can, in the order of the list."""
        return Pairing(self.above).apart()

    def order(self):
        """All items that stay and come, in an order that is wished, where the kept ones keep theirs."""
        ahead = {serial: [] for serial in self.links}
        for serial, others in self.links.items():
            for other in others:
                ahead[other].append(serial)
        kept = self.keeping()
        for at in range(1, len(kept)):
            ahead[kept[at]].append(kept[at - 1])
        left = self.arriving + self.staying
        order = []
        while left:
            ready = [serial for serial in left if all([one in order for one in ahead[serial]])]
            order.append(ready[0])
            left.remove(ready[0])
        return tuple(order)
