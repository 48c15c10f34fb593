"""Trees for demands that hang together, and the selections that cost least for them."""

from sourceback.bans import LEFT, Bans
from sourceback.forms import Forms
from sourceback.refuting import System, loose_names, names_in_leaf


class Case:
    """Some demands of a ground, by their names, and the prices of spots: of a set, and of a gone or None.

    It goes through what may be decided, spot by spot and way by way. What cannot be is kept as bans, which tell
    at other places, too, what must change, and what that costs at least. Nothing that costs the limit or more is
    looked at; found has what can do it, and every tells whether to go on behind the first one.
    """

    def __init__(self, ground, names, prices):
        self.ground = ground
        self.demands = {name: ground.demands[name] for name in names}
        self.bans = Bans(questions_about(ground, names, prices), prices)
        self.limit = None
        self.every = False
        self.found = []
        # What was decided for a selection with the least cost, None if nothing can do it; and this cost.
        self.best = None
        self.least = 0
        # The case that comes next where a tree tells the cost of several, and the trees by what they show.
        self.behind = None
        self.trees = {}

    def work(self):
        """Find a selection with the least cost, or that there is none."""
        self.begin(None, False)
        while self.found:
            self.best = self.found[0]
            self.least = self.best.cost
            self.begin(self.least, False)

    def all_best(self):
        """All selections with the least cost, each once."""
        self.begin(self.least + 1, True)
        return sorted(list({stand.selection(): True for stand in self.found}))

    def begin(self, limit, every):
        """Start again with a limit."""
        self.limit = limit
        self.every = every
        self.found = []
        self.seek(self.bans.start)

    def seek(self, stand):
        """Look for what can do it behind what was decided."""
        cost = self.least_from(stand)
        if cost is None or (self.limit is not None and cost >= self.limit):
            return
        question = self.question(stand)
        if question is None:
            self.found.append(stand)
            return
        for answer in self.answers_to(question):
            further = self.bans.further(stand, question, answer)
            if further is not None:
                self.seek(further)
                if self.found and not self.every:
                    return

    def answers_to(self, question):
        """The answers to a question, first the one behind which something is likely to be found."""
        if question[0] == "way":
            return (False, True)
        return ("set", "gone", LEFT) if self.limit is None else (LEFT, "set", "gone")

    def least_from(self, stand):
        """The least that anything behind what was decided costs, as far as bans tell; None if nothing can do it."""
        spare = {spot: price for spot, price in self.bans.cheapest.items()}
        cost = stand.cost
        for ban in self.bans.met(stand.held):
            part = self.bans.charge(stand, ban, spare)
            if part is None:
                return None
            cost += part
        while self.limit is None or cost < self.limit:
            ban = self.learn(stand, [spot for spot in spare if spare[spot] == 0])
            if ban is None:
                return cost
            part = self.bans.charge(stand, ban, spare)
            if part is None:
                return None
            cost += part
        return cost

    def learn(self, stand, loosened):
        """Find a ban of what was decided, and of other spots as they are, but for some; None if there is none."""
        chosen = {spot: LEFT for spot in self.bans.cheapest if spot not in loosened}
        for spot, word in stand.chosen.items():
            chosen[spot] = word
        demands = self.all_demands(stand.ways)
        leaf = System(Forms(self.ground, chosen, stand.ways, None), demands).first_leaf()
        if leaf is None:
            return None
        named = names_in_leaf(leaf)
        ways = {way: equal for way, equal in stand.ways.items() if way_name(way[0], way[1]) in named}
        some = {}
        while True:
            forms = Forms(self.ground, some, ways, None)
            names = loose_names(forms, demands, leaf)
            if not names:
                return self.bans.keep(leaf, some, ways)
            self.answer_one(self.questions(forms, names), some, ways, (chosen, stand.ways))

    def answer_one(self, questions, some, ways, known):
        """Give the first answer that is known."""
        for word, told in questions:
            if word == "spot" and told in known[0]:
                some[told] = known[0][told]
                return
            if word == "way" and told in known[1]:
                ways[told] = known[1][told]
                return

    def question(self, stand):
        """What to decide next; None if nothing more must be changed or known."""
        left = [ban.undecided(stand) for ban in self.bans.met(stand.held)]
        if left:
            # A ban of few spots leaves the fewest branches.
            fewest = min([len(spots) for spots in left])
            return ("spot", [spots for spots in left if len(spots) == fewest][0][0])
        forms = Forms(self.ground, stand.chosen, stand.ways, LEFT)
        questions = self.questions(forms, self.names_in(forms, self.all_demands(stand.ways)))
        return questions[0] if questions else None

    def tree_to(self, bound):
        """The tree that shows that this case and those behind it cost a bound or more; None: that nothing does it."""
        if bound not in self.trees:
            self.trees[bound] = self.tree(self.bans.start, bound)
        return self.trees[bound]

    def tree(self, stand, bound):
        """The tree to a bound for what was decided."""
        if bound is not None and stand.cost >= bound:
            return ("cost",)
        if bound is not None and stand.cost >= self.least:
            return self.behind.tree_to(bound - stand.cost)
        met = self.bans.met(stand.held)
        broken = [ban for ban in met if ban.undecided(stand) == []]
        if broken:
            return broken[0].leaf
        if not met and self.learn(stand, []) is not None:
            return self.tree(stand, bound)
        question = self.question(stand)
        if question[0] == "way":
            return self.way_tree(stand, question, bound)
        trees = []
        for answer in (LEFT, "set", "gone"):
            further = self.bans.further(stand, question, answer)
            trees.append(None if further is None else self.tree(further, bound))
        return question + tuple(trees)

    def way_tree(self, stand, question, bound):
        """The tree that decides a way."""
        key, literal = question[1]
        trees = [self.tree(self.bans.further(stand, question, equal), bound) for equal in (False, True)]
        return way_name(key, literal) + tuple(trees)

    def answers(self, near):
        """Numbers and strings for the unknowns with the selection that was found, near some numbers."""
        system = System(Forms(self.ground, self.best.chosen, self.best.ways, LEFT), self.all_demands(self.best.ways))
        # The equations are added where a leaf is looked for, which there is not.
        system.first_leaf()
        return system.solution(near)

    def all_demands(self, ways):
        """The demands of the case, and those of ways that were decided."""
        demands = {name: self.demands[name] for name in self.demands}
        for (key, literal), equal in ways.items():
            demands[way_name(key, literal)] = self.ground.way_demand(key, literal, equal)
        return demands

    def names_in(self, forms, demands):
        """The letters and unknowns in the sides of demands."""
        found = {}
        for demand in demands.values():
            for side in (forms.side(demand.left), forms.side(demand.right)):
                for name in (list(side) if isinstance(side, dict) else [side]):
                    found[name] = True
        return list(found)

    def questions(self, forms, names):
        """What must be decided to know the letters among some names: spots and ways."""
        found = {}
        for name in names:
            if name in self.ground.nodes:
                question = forms.first(name)
                if question[0] in ("spot", "way"):
                    found[question] = True
        return list(found)


def questions_about(ground, names, prices):
    """The questions about the spots and ways that some demands hang on."""
    found = {}
    for name in names:
        for tie in ground.ties(ground.demands[name]):
            if len(tie) == 2:
                found[("way", tie)] = True
            elif tie in prices:
                found[("spot", tie)] = True
    return list(found)


def way_name(key, literal):
    """The name of the demand for a way, with which its tree begins, too."""
    return ("way" if len(key) == 2 else "field", key, literal)
