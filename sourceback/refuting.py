"""What shows that some demands cannot all hold: the leaves of trees."""

from sourceback.classes import Classes
from sourceback.forms import CONSTANT
from sourceback.lattice import Lattice
from sourceback.ratios import NOTHING, plus, times


class System:
    """Demands by their names, with the forms of their sides."""

    def __init__(self, forms, demands):
        self.forms = forms
        self.demands = demands
        self.lattice = Lattice()
        self.classes = Classes()

    def names_of(self, kind, equal):
        """The names of the demands of a kind that say equal, or not."""
        return [name for name in self.demands
                if self.demands[name].kind == kind and self.demands[name].equal == equal]

    def first_leaf(self):
        """A leaf that refutes the demands, or None."""
        for found in (self.row_leaf(), self.strings_leaf()):
            if found is not None:
                return found
        return self.forced_leaf()

    def row_leaf(self):
        """A leaf for equations of numbers."""
        forms = {name: self.forms.excess_of(self.demands[name]) for name in self.names_of("number", True)}
        # Short ones first: what is wrong by itself is found alone.
        for name in sorted(forms, key=lambda one: len(forms[one])):
            shares = self.lattice.fulfil(name, forms[name])
            if shares is not None:
                return ("row", parts_of(shares))
        return None

    def strings_leaf(self):
        """A leaf for texts."""
        for name in self.names_of("text", True):
            demand = self.demands[name]
            self.classes.join_sides(name, self.forms.side(demand.left), self.forms.side(demand.right))
        names = self.classes.contradiction()
        if names is not None:
            return ("strings", tuple(sorted(names)))
        for name in self.names_of("text", False):
            demand = self.demands[name]
            roads = self.classes.roads(self.forms.side(demand.left))
            if self.forms.side(demand.right) in roads:
                return ("strings", tuple(sorted(roads[self.forms.side(demand.right)] + [name])))
        return None

    def forced_leaf(self):
        """A leaf for numbers that are to be different."""
        for name in self.names_of("number", False):
            shares = self.lattice.explained(self.forms.excess_of(self.demands[name]))
            if shares is not None:
                return ("forced", name, parts_of(shares))
        return None

    def solution(self, near):
        """Numbers and strings for all unknowns by which the demands hold, when no leaf refutes them.

        Numbers are near those that near tells for some of them.
        """
        apart = [self.forms.excess_of(self.demands[name]) for name in self.names_of("number", False)]
        worths = self.lattice.solved(apart, near)
        sides = [self.forms.side(side) for name in self.names_of("text", True) + self.names_of("text", False)
                 for side in (self.demands[name].left, self.demands[name].right)]
        names = [side for side in sides if isinstance(side, tuple)]
        strings = self.classes.solved(names, [side for side in sides if isinstance(side, str)])
        for name, string in strings.items():
            worths[name] = string
        return worths


def parts_of(shares):
    """Fractions of demands as a leaf has them."""
    return tuple(sorted([(name,) + shares[name] for name in shares]))


def shared_sum(forms, demands, parts):
    """The sum of fractions of the differences of demands: fractions of letters, unknowns and of the constant."""
    total = {CONSTANT: NOTHING}
    for name, numerator, denominator in parts:
        for part, many in forms.excess_of(demands[name]).items():
            total[part] = plus(total.get(part, NOTHING), times((numerator, denominator), (many, 1)))
    return total


def names_in_leaf(leaf):
    """The names of the demands that a leaf speaks of."""
    if leaf[0] == "strings":
        return list(leaf[1])
    return [part[0] for part in leaf[-1]] + ([leaf[1]] if leaf[0] == "forced" else [])


def loose_names(forms, demands, leaf):
    """Letters and unknowns of which one must be told for a leaf to refute demands; none if it refutes them now."""
    if leaf[0] == "strings":
        return [] if do_strings_refute(forms, demands, leaf[1]) else names_in_texts(forms, demands, leaf[1])
    total = shared_sum(forms, demands, leaf[-1])
    if leaf[0] == "row":
        return [name for name in total if name != CONSTANT and total[name][1] != 1]
    for name, many in forms.excess_of(demands[leaf[1]]).items():
        total[name] = plus(total.get(name, NOTHING), (-many, 1))
    return [name for name in total if name != CONSTANT and total[name] != NOTHING]


def names_in_texts(forms, demands, names):
    """The letters and unknowns in the sides of demands of texts."""
    sides = [forms.side(side) for name in names for side in (demands[name].left, demands[name].right)]
    return [side for side in sides if isinstance(side, tuple)]


def do_strings_refute(forms, demands, names):
    """Tell whether demands of texts cannot all hold."""
    classes = Classes()
    for name in names:
        if demands[name].equal:
            classes.join_sides(name, forms.side(demands[name].left), forms.side(demands[name].right))
    if classes.contradiction() is not None:
        return True
    apart = [demands[name] for name in names if not demands[name].equal]
    return any([forms.side(demand.right) in classes.roads(forms.side(demand.left)) for demand in apart])
