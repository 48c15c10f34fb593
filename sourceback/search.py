"""The selections that cost least: what to set and what to take away."""

from sourceback.cases import Case
from sourceback.costs import all_costs, pair_cost
from sourceback.errors import Refused, TooLarge
from sourceback.ground import Ground
from sourceback.spots import value_at
from sourceback.wishes import Wish


def selections(project, edit, *, locked=(), **costs):
    """Go through the selections with the least cost that can do what an edit wishes, ascending."""
    search = Search(ground_of(project, edit, locked), all_costs(**costs))
    for selection in search.all_selections():
        yield selection


def bounded_ground(project, edit, locked):
    """The ground of an edit; raises TooLarge if there is too much to go through."""
    ground = Ground(Wish(project, edit, locked))
    word = ground.excess()
    if word is not None:
        raise TooLarge(word)
    return ground


def ground_of(project, edit, locked):
    """The ground of an edit; raises what stands against it but for the selections."""
    ground = bounded_ground(project, edit, locked)
    refusal = ground.asked.refusal()
    if refusal is not None:
        word, paper = refusal
        raise Refused(word, paper)
    return ground


def prices_of(ground, costs):
    """What it costs to set each spot that can be decided, and to take its literal away, or None."""
    prices = {}
    for spot in list(ground.loose) + ground.lost_spots():
        gone = pair_cost(ground.spots, spot, "gone", costs) if ground.spots.can_go(spot) else None
        prices[spot] = (pair_cost(ground.spots, spot, "set", costs), gone)
    return prices


class Search:
    """The cases of a ground: demands that hang together by what can be decided."""

    def __init__(self, ground, costs):
        self.ground = ground
        prices = prices_of(ground, costs)
        self.cases = [Case(ground, names, prices) for names in self.groups()]

    def groups(self):
        """The names of the demands, those together that have a tie."""
        ties = {name: self.ground.ties(demand) for name, demand in self.ground.demands.items()}
        tied = {}
        for name in ties:
            for tie in ties[name]:
                tied.setdefault(tie, []).append(name)
        groups = []
        met = {}
        for start in ties:
            group = []
            waiting = [start]
            while waiting:
                name = waiting.pop()
                if name not in met:
                    met[name] = True
                    group.append(name)
                    for tie in ties[name]:
                        waiting += tied[tie]
            if group:
                groups.append(group)
        return groups

    def refutation(self):
        """A tree that shows that no selection can do it, or None; finds the least cost of each case."""
        for case in self.cases:
            case.work()
            if case.best is None:
                return case.tree_to(None)
        return None

    def all_deeds(self):
        """The sets and gones of a selection with the least cost, and the sets of new items."""
        spots = self.ground.spots
        fresh = [key for key, node in self.ground.nodes.items() if not node.rungs]
        selection = [pair for case in self.cases for pair in case.best.selection()]
        near = {}
        for spot, word in selection:
            value = value_at(spots.stored, spot)
            if value is not None and isinstance(value.worth, int):
                near[spot] = value.worth
        worths = {}
        for case in self.cases:
            for name, worth in case.answers(near).items():
                worths[name] = worth
        sets = [spot for spot, word in selection if word == "set"] + fresh
        deeds = [("gone", spot) for spot, word in selection if word == "gone"]
        # What stands in no demand may be anything.
        nothing = {"number": 0, "text": ""}
        return deeds + [("set", spot, worths.get(spot, nothing[self.kind_of(spot)])) for spot in sets]

    def kind_of(self, spot):
        """The kind of a spot, perhaps of a new item."""
        return self.ground.nodes[spot].kind if spot in self.ground.nodes else self.ground.spots.kind_at(spot)

    def all_selections(self):
        """All selections with the least cost, ascending."""
        if self.refutation() is not None:
            return []
        found = [()]
        for case in self.cases:
            more = case.all_best()
            found = [one + other for one in found for other in more]
        return sorted([tuple(sorted(selection)) for selection in found])

    def least_cost(self):
        """The least cost."""
        return sum([case.least for case in self.cases])

    def tree(self):
        """A tree for the least cost: that of each case that costs something at ends of the one ahead."""
        costly = [case for case in self.cases if case.least > 0]
        for at in range(1, len(costly)):
            costly[at - 1].behind = costly[at]
        return costly[0].tree_to(self.least_cost()) if costly else ("cost",)
