"""Texts that are to be equal, and what shows that they cannot be.

Strings, unknowns and letters are put into classes by equations, each with a name.
"""


class Classes:
    """The equations of texts: for each string or name those to which it is equal, with the names of the equations."""

    def __init__(self):
        self.links = {}

    def join_sides(self, name, left, right):
        """Add an equation."""
        self.links.setdefault(left, []).append((right, name))
        self.links.setdefault(right, []).append((left, name))

    def roads(self, start):
        """For all that is in the class of a string or name the equations that lead there, as few as can be."""
        roads = {start: []}
        waiting = [start]
        while waiting:
            one = waiting.pop(0)
            for other, name in self.links.get(one, []):
                if other not in roads:
                    roads[other] = roads[one] + [name]
                    waiting.append(other)
        return roads

    def contradiction(self):
        """The equations by which two different strings are in one class, or None."""
        found = []
        for start in self.links:
            if isinstance(start, str):
                roads = self.roads(start)
                found += [roads[end] for end in roads if isinstance(end, str) and end != start]
        lengths = [len(road) for road in found]
        return found[lengths.index(min(lengths))] if found else None

    def solved(self, names, strings):
        """Strings for names: one for each class, different ones for different classes, other ones than some strings."""
        taken = {string: True for string in strings}
        found = {}
        for name in names:
            if name not in found:
                same = list(self.roads(name))
                told = [one for one in same if isinstance(one, str)]
                worth = told[0] if told else fresh_string(taken)
                taken[worth] = True
                for one in same:
                    found[one] = worth
        return {name: found[name] for name in names}


def fresh_string(taken):
    """A short string that is none of those that are taken."""
    tries = [""] + [letter * many for many in range(1, len(taken) + 2) for letter in "abc"]
    return [string for string in tries if string not in taken][0]
