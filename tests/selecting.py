"""A second way to tell which selections can do what a wish asks, and which trees hold, over the data of worlds."""

import itertools
from fractions import Fraction
from math import gcd

from planning import COSTS, first_behind, world_spots
from randomly import Output


class Wished(Output):
    """The places of a world with the rows of a wish, and their forms when some spots and ways are decided.

    decided tells of spots whether they are out, set or gone; all others are undecided, or out if settled is true.
    ways tells of (key, literal) whether they are equal. A form is (factors, constant), or ("text", string or name).
    """

    def __init__(self, world, values, rows, goes=()):
        self.values, self.wished_rows, self.goes = values, rows, goes
        self.kind_of = {spot: found.kind for spot, found in world_spots(world).items()}
        for key, table in world.lists.items():
            for column, kind in table["columns"].items():
                self.kind_of[key + (column,)] = kind
        self.known_ways = None
        super().__init__(world, pseudo=False)

    def walk(self, file, base, path, layers, hidden):
        """As in Output, but nothing is worked out."""
        self.pseudo = True
        return super().walk(file, base, path, layers, hidden)

    def shown(self, file, loop, path, name):
        return self.wished_rows.get((file, path + (name,)), ())

    # Forms

    def decide(self, decided, ways, settled=False):
        self.decided, self.ways, self.settled, self.forms, self.asked = decided, ways, settled, {}, []
        return self

    def is_open(self, spot):
        return spot in self.prices

    def word(self, spot):
        if spot not in self.prices:
            return "out"
        return self.decided.get(spot, "out" if self.settled else None)

    def one(self, name, kind):
        return ("text", name) if kind == "text" else ({name: 1}, 0)

    def form(self, file, path):
        key = (file, path)
        if key not in self.forms:
            self.forms[key] = self.make(key, file, path)
        return self.forms[key]

    def make(self, key, file, path):
        layers = self.layers[key]
        kind = self.kind_of[layers[-1].level(path[-1])]
        for layer in layers:
            spot, value = layer.level(path[-1]), layer.get(path[-1])
            word = self.word(spot)
            if word is None:
                self.asked.append(("spot", spot))
                return self.one(key, kind)
            if word == "set":
                return self.one(spot, kind)
            if word == "out" and value is not None:
                return self.expression(key, kind, file, layer.home, value)
        raise AssertionError(key)

    def expression(self, key, kind, file, home, value):
        if value["form"] == "literal":
            return literal_form(value["worth"])
        if value["form"] == "copy":
            return self.read(file, home, value["path"])
        if value["form"] == "choice":
            compared, literal = self.key(file, home, value["path"]), value["literal"]
            equal = self.values[compared] == literal if compared in self.values else self.ways.get((compared, literal))
            if equal is None:
                self.asked.append(("way", (compared, literal)))
                return self.one(key, kind)
            return self.expression(key, kind, file, home, value["sides"][0 if equal else 1])
        factors, constant = {}, 0
        for sign, number, path in value["terms"]:
            many = sign * (1 if number is None else number)
            if path is None:
                constant += many
                continue
            more, rest = self.read(file, home, path)
            for name, factor in more.items():
                factors[name] = factors.get(name, 0) + many * factor
            constant += many * rest
        return {name: factor for name, factor in factors.items() if factor}, constant

    def key(self, file, home, path):
        if home.item is not None and path[0] == home.item[0]["var"]:
            return home.item[0]["list"] + ((home.item[1], path[1]),)
        return (file, home.path + path)

    def read(self, file, home, path):
        return self.side(self.key(file, home, path))

    def side(self, side):
        """The form of a key or a literal."""
        if not isinstance(side, tuple):
            return literal_form(side)
        if len(side) == 2:
            return self.form(*side)
        table = self.world.lists[side[:2]]
        serial, column = side[2]
        kind = table["columns"][column]
        if serial >= len(table["items"]):
            return self.one(side, kind)
        word = self.word(side)
        if word is None:
            self.asked.append(("spot", side))
        return literal_form(table["items"][serial][column]) if word == "out" else self.one(side, kind)

    # Demands

    def demands(self):
        """(name, equal, left, right) of all demands; both sides are keys or literals."""
        found = [(("value", place), True, place, worth) for place, worth in self.values.items()]
        for (file, path), serials in self.wished_rows.items():
            loop = self.loops[(file, path)]
            if loop["where"] is None:
                continue
            column, right = loop["where"]
            table = self.world.lists[loop["list"]]
            stay = [serial for serial in range(len(table["items"])) if loop["list"] + (serial,) not in self.goes]
            new = {serial for place, more in self.wished_rows.items() for serial in more
                   if self.loops[place]["list"] == loop["list"] and serial >= len(table["items"])}
            for serial in stay + sorted(new):
                side = (file, path[:-1] + right) if isinstance(right, tuple) else right
                found.append((("shown", (file, path), serial), serial in serials, loop["list"] + ((serial, column),), side))
        for (key, literal), equal in self.ways.items():
            found.append((("way" if len(key) == 2 else "field", key, literal), equal, key, literal))
        return found

    def conditions(self, demands):
        return [(equal, self.side(left), self.side(right)) for _, equal, left, right in demands]

    def set_prices(self, costs, locked):
        """The open spots that are levels or fields of items, with what it costs to set and to take each."""
        self.prices = {}
        spots = world_spots(self.world)
        near = {layer.level(path[-1]) for (_, path), layers in self.every_layer().items() for layer in layers}
        for spot in near:
            found = spots[spot]
            if spot[0] not in locked and not found.is_shut():
                if found.value is not None:
                    self.prices[spot] = {"set": costs["change"]}
                    if not found.last:
                        self.prices[spot]["gone"] = costs["remove"]
                else:
                    self.prices[spot] = {"set": costs["cut" if first_behind(self.world, spots, spot).is_shut() else "add"]}
        for key, table in self.world.lists.items():
            for serial in range(len(table["items"])):
                if key[0] not in locked and key + (serial,) not in self.goes:
                    for column in table["columns"]:
                        self.prices[key + ((serial, column),)] = {"set": costs["change"]}

    def every_layer(self):
        """The layers of all places, in rows as if each list had one item."""
        return Output(self.world, pseudo=True).layers

    def all_ways(self):
        """The (key, literal) that choices compare if the wish does not tell the way, of each place the outermost expression."""
        if self.known_ways is not None:
            return self.known_ways
        found = self.known_ways = set()
        for (file, path), layers in self.layers.items():
            shut = [(layer, layer.get(path[-1])) for layer in layers if layer.get(path[-1]) and layer.get(path[-1])["form"] != "literal"]
            if shut and shut[0][1]["form"] == "choice":
                key = self.key(file, shut[0][0].home, shut[0][1]["path"])
                if key not in self.values:
                    found.add((key, shut[0][1]["literal"]))
        return found

    def can_do(self, selection):
        """Whether a selection can do it, by some ways of the choices that are met."""
        waiting = [{}]
        while waiting:
            ways = waiting.pop()
            self.decide(dict(selection), ways, settled=True)
            conditions = self.conditions(self.demands())
            if self.asked:
                way = self.asked[0][1]
                waiting += [{**ways, way: equal} for equal in (True, False)]
            elif can_hold(conditions):
                return True
        return False

    def least(self):
        """The least cost and all selections with it that can do it, each tried; (None, []) if none can."""
        spots = sorted(self.prices)
        by_cost = {}
        for words in itertools.product(*[[None] + sorted(self.prices[spot]) for spot in spots]):
            pairs = tuple((spot, word) for spot, word in zip(spots, words) if word)
            by_cost.setdefault(sum(self.prices[spot][word] for spot, word in pairs), []).append(pairs)
        for cost in sorted(by_cost):
            good = [pairs for pairs in by_cost[cost] if self.can_do(pairs)]
            if good:
                return cost, sorted(good)
        return None, []

    def many(self):
        """How many selections there are."""
        count = 1
        for prices in self.prices.values():
            count *= 1 + len(prices)
        return count


def literal_form(worth):
    return ("text", worth) if isinstance(worth, str) else ({}, worth)


def can_hold(conditions):
    """Whether integers and strings can be given such that sides are equal, or are not."""
    texts = [(equal, left[1], right[1]) for equal, left, right in conditions if left[0] == "text"]
    numbers = [(equal, *difference(left, right)) for equal, left, right in conditions if left[0] != "text"]
    return texts_can_hold(texts) and numbers_can_hold(numbers)


def difference(left, right):
    """The factors of left less right, and the number to which they must sum up for both to be equal."""
    factors = dict(left[0])
    for name, factor in right[0].items():
        factors[name] = factors.get(name, 0) - factor
    return {name: factor for name, factor in factors.items() if factor}, right[1] - left[1]


def texts_can_hold(texts):
    group = {}
    for equal, left, right in texts:
        for side in (left, right):
            group.setdefault(side, {side})
        if equal and group[left] is not group[right]:
            joined = group[left] | group[right]
            for side in joined:
                group[side] = joined
    if any(len([side for side in part if isinstance(side, str)]) > 1 for part in group.values()):
        return False
    return not any(not equal and group[left] is group[right] for equal, left, right in texts)


def numbers_can_hold(numbers):
    """By a matrix whose columns are turned until each equation has one more column."""
    names = sorted({name for _, factors, _ in numbers for name in factors}, key=repr)
    columns = [[int(at == one) for at in range(len(names))] for one in range(len(names))]
    point = [0] * len(names)

    def product(factors, vector):
        return sum(factors.get(name, 0) * part for name, part in zip(names, vector))

    for equal, factors, wanted in numbers:
        if equal:
            missing = wanted - product(factors, point)
            while len([column for column in columns if product(factors, column)]) > 1:
                columns.sort(key=lambda column: abs(product(factors, column)) or 10 ** 99)
                least = columns[0]
                for at in range(1, len(columns)):
                    many = product(factors, columns[at]) // product(factors, least)
                    columns[at] = [part - many * other for part, other in zip(columns[at], least)]
            used = [column for column in columns if product(factors, column)]
            if not used:
                if missing:
                    return False
                continue
            step = product(factors, used[0])
            if missing % step:
                return False
            point = [part + missing // step * other for part, other in zip(point, used[0])]
            columns.remove(used[0])
    return not any(not equal and product(factors, point) == wanted and not any(product(factors, column) for column in columns)
                   for equal, factors, wanted in numbers)


# Trees


def tree_holds(wished, value, bound, decided=None, ways=None, cost=0):
    """Whether any value is a tree for a wish and a bound."""
    decided, ways = decided or {}, ways or {}
    if type(value) is not tuple or not value or type(value[0]) is not str:
        return False
    if value[0] == "cost":
        return value == ("cost",) and bound is not None and cost >= bound
    if value[0] == "spot":
        if len(value) != 5 or not plain(value[1]) or value[1] in decided or value[1] not in wished.prices:
            return False
        prices = wished.prices[value[1]]
        for word, part in zip(("out", "set", "gone"), value[2:]):
            if word == "gone" and "gone" not in prices:
                if part is not None:
                    return False
            elif not tree_holds(wished, part, bound, {**decided, value[1]: word}, ways, cost + prices.get(word, 0)):
                return False
        return True
    if value[0] in ("way", "field"):
        if len(value) != 5 or not plain(value[1:3]) or type(value[1]) is not tuple or len(value[1]) != (2 if value[0] == "way" else 3):
            return False
        if value[1:3] in ways or value[1:3] not in wished.all_ways():
            return False
        return all(tree_holds(wished, part, bound, decided, {**ways, value[1:3]: equal}, cost)
                   for equal, part in zip((False, True), value[3:]))
    wished.decide(decided, ways)
    known = {name: (equal, left, right) for name, equal, left, right in wished.demands()}
    if value[0] == "strings" and len(value) == 2:
        return strings_hold(wished, known, value[1])
    if value[0] == "row" and len(value) == 2 and are_parts(wished, known, value[1]):
        factors, constant = summed(wished, known, value[1])
        return all(factor.denominator == 1 for factor in factors.values()) and constant.denominator != 1
    if value[0] == "forced" and len(value) == 3 and are_parts(wished, known, value[2]) and plain(value[1]) and value[1] in known:
        equal, left, right = known[value[1]]
        if equal or wished.side(left)[0] == "text":
            return False
        factors, constant = summed(wished, known, value[2])
        more, wanted = difference(wished.side(left), wished.side(right))
        return {name: factor for name, factor in factors.items() if factor} == more and constant == -wanted
    return False


def strings_hold(wished, known, names):
    if type(names) is not tuple or not all(plain(name) and name in known for name in names) or sorted(set(names)) != list(names):
        return False
    found = [(equal, wished.side(left), wished.side(right)) for equal, left, right in (known[name] for name in names)]
    return all(left[0] == "text" for _, left, _ in found) and not texts_can_hold([(equal, a[1], b[1]) for equal, a, b in found])


def are_parts(wished, known, parts):
    if type(parts) is not tuple or not all(type(part) is tuple and len(part) == 3 and plain(part) for part in parts):
        return False
    for name, numerator, denominator in parts:
        if type(numerator) is not int or type(denominator) is not int or not numerator or denominator < 1:
            return False
        if gcd(numerator, denominator) != 1 or name not in known or not known[name][0] or wished.side(known[name][1])[0] == "text":
            return False
    names = [part[0] for part in parts]
    return names == sorted(set(names))


def summed(wished, known, parts):
    factors, constant = {}, Fraction(0)
    for name, numerator, denominator in parts:
        _, left, right = known[name]
        more, wanted = difference(wished.side(left), wished.side(right))
        for one, factor in more.items():
            factors[one] = factors.get(one, 0) + Fraction(numerator, denominator) * factor
        constant -= Fraction(numerator, denominator) * wanted
    return factors, constant


def plain(value):
    """Whether a value has only tuples, strings and integers in it."""
    return type(value) in (str, int) or (type(value) is tuple and all(plain(part) for part in value))
