"""The forms of places: what they are made of when some spots and ways are decided.

Letters are known by the keys of nodes, unknowns by spots. The form of a number is a dict of the factors of
its letters and unknowns, with its constant under CONSTANT; that of a text is a string, a key or a spot.
"""

from sourceback.ground import simple_keys

CONSTANT = ()


class Forms:
    """The forms of nodes.

    chosen tells of spots whether they are left as they are (out), set or gone, ways whether what a choice
    compares is equal. A spot that is not chosen is undecided, or left if that is the rest's word.
    """

    def __init__(self, ground, chosen, ways, rest):
        self.ground = ground
        self.chosen = chosen
        self.ways = ways
        self.rest = rest
        self.found = {}

    def first(self, key):
        """What tells a node: a simple, an unknown, or what is to be decided first, a spot or a way."""
        rungs = self.ground.nodes[key].rungs
        for rung in rungs:
            word = self.chosen.get(rung.spot, self.rest) if rung.free else "out"
            if word is None:
                return ("spot", rung.spot)
            if word == "set":
                return ("unknown", rung.spot)
            if word == "out" and rung.simples:
                if rung.way is None:
                    return ("simple", rung.simples[0])
                if rung.way not in self.ways:
                    return ("way", rung.way)
                return ("simple", rung.simples[0 if self.ways[rung.way] else 1])
        # Only the fields of new items have no rungs.
        return ("unknown", key)

    def form(self, key):
        """The form of a node."""
        # Not by recursion: a value may be read over hundreds of others.
        waiting = [key]
        while waiting:
            top = waiting[-1]
            word, told = self.first(top)
            missing = []
            if word == "simple" and top not in self.found:
                missing = [other for other in simple_keys(told) if other not in self.found]
            if missing:
                waiting += missing
                continue
            waiting.pop()
            if top not in self.found:
                self.found[top] = self.form_of(top, word, told)
        return self.found[key]

    def form_of(self, key, word, told):
        """The form of a node, when all that it reads have one."""
        is_text = self.ground.nodes[key].kind == "text"
        if word != "simple":
            name = told if word == "unknown" else key
            return name if is_text else {CONSTANT: 0, name: 1}
        if is_text:
            return told if isinstance(told, str) else self.found[told]
        terms, constant = told
        total = {CONSTANT: constant}
        for factor, other in terms:
            add_form(total, factor, self.found[other])
        return total

    def side(self, side):
        """The form of a side of a demand."""
        if isinstance(side, tuple):
            return self.form(side)
        return side if isinstance(side, str) else {CONSTANT: side}

    def excess_of(self, demand):
        """The form of what the left side of a demand of numbers has more than the right one."""
        total = {CONSTANT: 0}
        add_form(total, 1, self.side(demand.left))
        add_form(total, -1, self.side(demand.right))
        return total


def add_form(total, factor, form):
    """Add a form of a number so many times to another one."""
    for name, many in form.items():
        total[name] = total.get(name, 0) + factor * many
        if total[name] == 0 and name != CONSTANT:
            del total[name]
