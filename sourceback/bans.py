"""Answers to questions about spots and ways, and what shows that some of them cannot all be given.

A question is ("spot", spot) or ("way", way). A spot is left as it is, set or gone; a way says equal or not.
Each answer has a bit, so that what was answered is a mask.
"""

LEFT = "out"


class Stand:
    """What was decided on the way: spots and ways with their answers, and what that costs.

    decided is the mask of these answers, held the one in which all other spots are left as they are.
    """

    def __init__(self, chosen, ways, masks, cost):
        self.chosen = chosen
        self.ways = ways
        self.decided, self.held = masks
        self.cost = cost

    def selection(self):
        """The selection of what was decided to be set or gone."""
        return tuple(sorted([(spot, word) for spot, word in self.chosen.items() if word != LEFT]))


class Ban:
    """Answers that cannot all be given: their mask, the leaf that shows it, the (bit, spot) of the spots left."""

    def __init__(self, mask, leaf, still):
        self.mask = mask
        self.leaf = leaf
        self.still = still

    def undecided(self, stand):
        """The spots that are not decided yet."""
        return [spot for bit, spot in self.still if not bit & stand.decided]


class Bans:
    """The bans that were found, those of few spots first, and the prices of spots: of a set, and of a gone or None."""

    def __init__(self, questions, prices):
        self.prices = prices
        self.bits = {}
        self.cheapest = {}
        self.found = []
        held = 0
        for question in questions:
            word, told = question
            for answer in (LEFT, "set", "gone") if word == "spot" else (False, True):
                self.bits[(question, answer)] = 1 << len(self.bits)
            if word == "spot":
                self.cheapest[told] = min([price for price in prices[told] if price is not None])
                held |= self.bits[(question, LEFT)]
        self.start = Stand({}, {}, (0, held), 0)

    def further(self, stand, question, answer):
        """What is decided when one more question is answered, too; None if this cannot be the answer."""
        word, told = question
        bit = self.bits[(question, answer)]
        if word == "way":
            masks = (stand.decided | bit, stand.held | bit)
            return Stand(stand.chosen, with_one_more(stand.ways, told, answer), masks, stand.cost)
        set_price, gone_price = self.prices[told]
        price = {LEFT: 0, "set": set_price, "gone": gone_price}[answer]
        if price is None:
            return None
        masks = (stand.decided | bit, (stand.held - self.bits[(question, LEFT)]) | bit)
        return Stand(with_one_more(stand.chosen, told, answer), stand.ways, masks, stand.cost + price)

    def keep(self, leaf, chosen, ways):
        """Keep a ban of some answers."""
        mask = sum([self.bits[(("spot", spot), word)] for spot, word in chosen.items()])
        mask += sum([self.bits[(("way", way), equal)] for way, equal in ways.items()])
        ban = Ban(mask, leaf, [(self.bits[(("spot", spot), LEFT)], spot) for spot in chosen if chosen[spot] == LEFT])
        at = len(self.found)
        while at > 0 and len(self.found[at - 1].still) > len(ban.still):
            at -= 1
        self.found.insert(at, ban)
        return ban

    def met(self, mask):
        """The bans whose answers are all in a mask."""
        return [ban for ban in self.found if ban.mask & mask == ban.mask]

    def charge(self, stand, ban, spare):
        """What it costs at least that not all spots of a ban are left as they are, taken from what is spare of prices.

        None if they are all decided.
        """
        spots = ban.undecided(stand)
        if not spots:
            return None
        least = min([spare[spot] for spot in spots])
        for spot in spots:
            spare[spot] -= least
        return least


def with_one_more(answers, told, answer):
    """Answers by what they are about, with one more."""
    more = {other: answers[other] for other in answers}
    more[told] = answer
    return more
