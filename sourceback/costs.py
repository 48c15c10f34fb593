"""What deeds cost."""

from sourceback.deeds import new_serials, new_spots
from sourceback.rows import moves


def all_costs(*, change=2, add=3, cut=4, remove=2, move=1, delete=2, insert=3):
    """All costs by their names: those that are given, and the others as they are if they are not."""
    return {
        "change": change, "add": add, "cut": cut, "remove": remove,
        "move": move, "delete": delete, "insert": insert,
    }


def pair_cost(spots, spot, word, costs):
    """What it costs to set an open spot, or to take its literal away (the word is gone)."""
    return costs["remove"] if word == "gone" else costs[spots.price(spot)]


def chosen_cost(spots, deeds, costs):
    """What the sets and gones of a plan cost; those of new items cost nothing."""
    fresh = new_spots(spots.stored, deeds.orders)
    sets = [pair_cost(spots, spot, "set", costs) for spot in deeds.sets if spot not in fresh]
    return sum(sets) + sum([pair_cost(spots, spot, "gone", costs) for spot in deeds.gones])


def orders_cost(project, orders, costs):
    """What new orders of lists cost, by (file, list)."""
    return sum([order_cost(project, key[0], key[1], orders[key], costs) for key in orders])


def order_cost(project, file, name, serials, costs):
    """What a new order of one list costs."""
    old = project.serials(file, name)
    left_out = [serial for serial in old if serial not in serials]
    fresh = new_serials(project, file, name, serials)
    return len(left_out) * costs["delete"] + len(fresh) * costs["insert"] + moves(old, serials) * costs["move"]
