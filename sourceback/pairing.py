"""Few chains that have each item of an order once, and many items of which none is on a chain with another one.

The order is told by a dict: for each item those that are above it, also over others.
"""


class Pairing:
    """As many pairs as there can be of an item and one above it, each item once below and once above."""

    def __init__(self, above):
        self.above = above
        self.upper = {}
        self.lower = {}
        for item in above:
            self.pair(item)

    def pair(self, start):
        """Give an item one above it, perhaps by giving others another one than they have."""
        came = {}
        waiting = [start]
        while waiting:
            item = waiting.pop(0)
            for other in self.above[item]:
                if other not in came:
                    came[other] = item
                    if other not in self.lower:
                        self.turn(came, start, other)
                        return
                    waiting.append(self.lower[other])

    def turn(self, came, start, other):
        """Pair the items anew along the way that was found."""
        while True:
            item = came[other]
            freed = self.upper.get(item)
            self.upper[item] = other
            self.lower[other] = item
            if item == start:
                return
            other = freed

    def chains(self):
        """The chains, each from below."""
        found = []
        for item in self.above:
            if item not in self.lower:
                chain = [item]
                while chain[-1] in self.upper:
                    chain.append(self.upper[chain[-1]])
                found.append(chain)
        return found

    def apart(self):
        """One item of each chain, such that none of them is above another one."""
        # By Koenig: from the items without a pair go up over any step and down over pairs.
        reached = {item: True for item in self.above if item not in self.upper}
        over = {}
        waiting = list(reached)
        while waiting:
            item = waiting.pop()
            for other in self.above[item]:
                if other not in over:
                    over[other] = True
                    lower = self.lower[other]
                    if lower not in reached:
                        reached[lower] = True
                        waiting.append(lower)
        return [item for item in self.above if item in reached and item not in over]
