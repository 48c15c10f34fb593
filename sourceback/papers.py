"""Telling whether any value is a tree that shows what it says."""

from math import gcd

from sourceback.bans import LEFT
from sourceback.forms import CONSTANT, Forms
from sourceback.refuting import do_strings_refute, shared_sum
from sourceback.shapes import is_part, is_place, is_serial, is_spot_shaped


class Paper:
    """What was decided on the way to what may be a tree for a bound, an integer or None."""

    def __init__(self, ground, prices, bound):
        self.ground = ground
        self.prices = prices
        self.bound = bound
        self.chosen = {}
        self.ways = {}
        self.cost = 0

    def holds(self, value):
        """Tell whether any value is a tree for what was decided."""
        if not isinstance(value, tuple) or value == () or not isinstance(value[0], str):
            return False
        if value[0] == "cost":
            return len(value) == 1 and self.bound is not None and self.cost >= self.bound
        if value[0] == "spot":
            return self.spot_holds(value)
        if value[0] in ("way", "field"):
            return self.way_holds(value)
        forms = Forms(self.ground, self.chosen, self.ways, None)
        if value[0] == "row":
            return len(value) == 2 and self.row_holds(forms, value[1])
        if value[0] == "strings":
            return len(value) == 2 and self.strings_hold(forms, value[1])
        return value[0] == "forced" and len(value) == 3 and self.forced_holds(forms, value[1], value[2])

    def spot_holds(self, value):
        """Tell whether a tuple is a tree that decides a spot."""
        if len(value) != 5 or not is_spot_shaped(value[1]):
            return False
        spot = value[1]
        if spot not in self.prices or spot in self.chosen:
            return False
        set_price, gone_price = self.prices[spot]
        if not self.holds_with(spot, LEFT, 0, value[2]) or not self.holds_with(spot, "set", set_price, value[3]):
            return False
        return value[4] is None if gone_price is None else self.holds_with(spot, "gone", gone_price, value[4])

    def holds_with(self, spot, word, price, value):
        """Tell whether any value is a tree behind a decision about a spot."""
        self.chosen[spot] = word
        self.cost += price
        holds = self.holds(value)
        self.cost -= price
        del self.chosen[spot]
        return holds

    def way_holds(self, value):
        """Tell whether a tuple is a tree that decides a way."""
        if len(value) != 5 or not is_way_named(value[:3]):
            return False
        way = value[1:3]
        if way not in self.ground.ways or way in self.ways:
            return False
        self.ways[way] = False
        holds = self.holds(value[3])
        self.ways[way] = True
        holds = holds and self.holds(value[4])
        del self.ways[way]
        return holds

    def demand(self, value):
        """The demand of which any value is the name, or None."""
        if is_way_named(value):
            way = value[1:]
            return self.ground.way_demand(way[0], way[1], self.ways[way]) if way in self.ways else None
        return self.ground.demands.get(value) if is_demand_shaped(value) else None

    def says(self, value, kind, equal):
        """Tell whether any value names a demand of a kind that says equal, or not."""
        demand = self.demand(value)
        return demand is not None and demand.kind == kind and demand.equal == equal

    def are_parts(self, value):
        """Tell whether any value is ascending fractions of different demands that say numbers are equal."""
        if not isinstance(value, tuple) or not all([is_share(part) for part in value]):
            return False
        names = [part[0] for part in value]
        return all([self.says(name, "number", True) for name in names]) and do_ascend(names)

    def sum_of(self, forms, parts):
        """The sum of fractions of demands."""
        return shared_sum(forms, {part[0]: self.demand(part[0]) for part in parts}, parts)

    def row_holds(self, forms, parts):
        """Tell whether any value is fractions of equations that no integers fulfil."""
        if not self.are_parts(parts):
            return False
        total = self.sum_of(forms, parts)
        return all([(total[name][1] == 1) == (name != CONSTANT) for name in total])

    def forced_holds(self, forms, name, parts):
        """Tell whether any values are a demand and equations by which both its sides are equal."""
        if not self.says(name, "number", False) or not self.are_parts(parts):
            return False
        total = self.sum_of(forms, parts)
        wanted = forms.excess_of(self.demand(name))
        found = {part: total[part][0] for part in total if total[part][0] != 0 or part == CONSTANT}
        return found == wanted and all([share[1] == 1 for share in total.values()])

    def strings_hold(self, forms, names):
        """Tell whether any value is demands of texts that cannot all hold."""
        if not isinstance(names, tuple):
            return False
        if not all([self.says(name, "text", True) or self.says(name, "text", False) for name in names]):
            return False
        return do_ascend(names) and do_strings_refute(forms, {name: self.demand(name) for name in names}, names)


def is_way_named(value):
    """Tell whether any value has the form of the name of a way's demand."""
    if not isinstance(value, tuple) or len(value) != 3 or not is_part(value[2]):
        return False
    return (value[0] == "way" and is_place(value[1])) or (value[0] == "field" and is_spot_shaped(value[1]))


def is_demand_shaped(value):
    """Tell whether any value has the form of the name of a demand of the wish."""
    if not isinstance(value, tuple) or len(value) not in (2, 3) or not is_place(value[1]):
        return False
    if len(value) == 2:
        return value[0] == "value"
    return value[0] == "shown" and is_serial(value[2])


def is_share(value):
    """Tell whether any value is something with a fraction other than 0 that has no common divisor."""
    if not isinstance(value, tuple) or len(value) != 3 or not is_serial(value[1]) or not is_serial(value[2]):
        return False
    return value[1] != 0 and value[2] >= 1 and gcd(value[1], value[2]) == 1


def do_ascend(names):
    """Tell whether names of demands are ascending and different."""
    return all([names[at - 1] < names[at] for at in range(1, len(names))])
