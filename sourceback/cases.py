"""Trees for demands that hang together, and the selections that cost least for them."""

from sourceback.forms import Forms
from sourceback.refuting import System, letters_in

LEFT = "out"


class Case:
    """Some demands of a ground, by their names, and the prices of spots: of a set, and of a gone or None.

    It goes through all selections, spot by spot and way by way. chosen and ways tell what was decided
    on the way, cost what that costs. Nothing that costs the bound or more is looked at; found has the selections
    that can do it, and every tells whether to go on behind the first one.
    """

    def __init__(self, ground, names, prices):
        self.ground = ground
        self.demands = {name: ground.demands[name] for name in names}
        self.prices = prices
        self.chosen = {}
        self.ways = {}
        self.cost = 0
        self.bound = None
        self.every = False
        self.found = []
        # What was decided where the bound was met costs this.
        self.cuts = []
        # A selection with the least cost, the ways with it, this cost, and the tree that shows it; if
        # there is none, the tree shows that.
        self.best = None
        self.best_ways = {}
        self.least = 0
        self.shown = None

    def work(self):
        """Find a selection with the least cost, or that there is none."""
        self.shown = self.begin(None, False)
        if not self.found:
            return
        self.best, self.best_ways, most = self.found[0]
        self.shown = ("cost",)
        while self.least < most:
            tree = self.begin(self.least + 1, False)
            if self.found:
                self.best, self.best_ways, _ = self.found[0]
                return
            self.shown = tree
            self.least = min(self.cuts)

    def all_best(self):
        """All selections with the least cost, each once."""
        self.begin(self.least + 1, True)
        return sorted(list({selection: True for selection, _, _ in self.found}))

    def begin(self, bound, every):
        """Start again with a bound."""
        self.bound = bound
        self.every = every
        self.found = []
        self.cuts = []
        return self.tree()

    def tree(self):
        """The tree for what was decided; None where selections are found that can do it."""
        if self.bound is not None and self.cost >= self.bound:
            self.cuts.append(self.cost)
            return ("cost",)
        demands = self.all_demands(self.ways)
        now = Forms(self.ground, self.chosen, self.ways, None)
        leaf = System(now, demands).leaf()
        if leaf is not None:
            return leaf
        # What would be if nothing more was changed tells what must be.
        left = Forms(self.ground, self.chosen, self.ways, LEFT)
        leaf = System(left, demands).leaf()
        if leaf is not None:
            return self.branch(self.next_question(now, demands, leaf))
        questions = self.questions(left, self.names_in(left, demands))
        if questions:
            return self.branch(questions[0])
        self.found.append((self.selection(), {way: self.ways[way] for way in self.ways}, self.cost))
        return None

    def answers(self, near):
        """Numbers and strings for the unknowns with the selection that was found, near some numbers."""
        chosen = {spot: word for spot, word in self.best}
        system = System(Forms(self.ground, chosen, self.best_ways, LEFT), self.all_demands(self.best_ways))
        # The equations are added where a leaf is looked for, which there is not.
        system.leaf()
        return system.solution(near)

    def all_demands(self, ways):
        """The demands of the case, and those of ways that were decided."""
        demands = {name: self.demands[name] for name in self.demands}
        for (key, literal), equal in ways.items():
            demands[way_name(key, literal)] = self.ground.way_demand(key, literal, equal)
        return demands

    def names_in(self, forms, demands):
        """The letters and unknowns in the sides of demands."""
        found = {}
        for demand in demands.values():
            for side in (forms.side(demand.left), forms.side(demand.right)):
                for name in (list(side) if isinstance(side, dict) else [side]):
                    found[name] = True
        return list(found)

    def questions(self, forms, names):
        """What must be decided to know the letters among some names: spots and ways."""
        found = {}
        for name in names:
            if name in self.ground.nodes:
                question = forms.first(name)
                if question[0] in ("spot", "way"):
                    found[question] = True
        return list(found)

    def next_question(self, now, demands, leaf):
        """What to decide next where a leaf tells that something must change."""
        return self.questions(now, letters_in(now, demands, leaf))[0]

    def branch(self, question):
        """The tree that decides a spot or a way."""
        word, told = question
        return self.spot_tree(told) if word == "spot" else self.way_tree(told)

    def spot_tree(self, spot):
        """The tree that decides a spot."""
        set_price, gone_price = self.prices[spot]
        trees = {}
        for word, price in (("set", set_price), ("gone", gone_price), (LEFT, 0)):
            trees[word] = None
            if price is not None:
                self.chosen[spot] = word
                self.cost += price
                trees[word] = self.tree()
                self.cost -= price
                del self.chosen[spot]
                if self.found and not self.every:
                    return None
        return ("spot", spot, trees[LEFT], trees["set"], trees["gone"])

    def way_tree(self, way):
        """The tree that decides a way."""
        trees = {}
        for equal in (False, True):
            self.ways[way] = equal
            trees[equal] = self.tree()
            del self.ways[way]
            if self.found and not self.every:
                return None
        return way_name(way[0], way[1]) + (trees[False], trees[True])

    def selection(self):
        """The selection of what was decided to be set or gone."""
        return tuple(sorted([(spot, word) for spot, word in self.chosen.items() if word != LEFT]))


def way_name(key, literal):
    """The name of the demand for a way, with which its tree begins, too."""
    return ("way" if len(key) == 2 else "field", key, literal)
