"""What a wish means for the items of lists: which go and come, and how many must be moved."""

from sourceback.errors import Refused
from sourceback.shapes import are_pairs, is_place, is_serial
from sourceback.wishes import Wish


def going(project, edit, *, locked=()):
    """The (file, list, serial) of all items that go, ascending."""
    items = Wish(project, edit, locked).standings
    return tuple([key + (serial,) for key in items for serial in sorted(items[key].leaving)])


def coming(project, edit):
    """The (file, list, serial) of all items that come, ascending."""
    items = Wish(project, edit, ()).standings
    return tuple([key + (serial,) for key in items for serial in items[key].arriving])


def moves(old, new):
    """How many of the items that are in both of two tuples must be moved."""
    places = [old.index(serial) for serial in new if serial in old]
    # The most that ascend and end with each of them.
    most = []
    for at, place in enumerate(places):
        most.append(1 + max([most[ahead] for ahead in range(at) if places[ahead] < place], default=0))
    return len(places) - max(most, default=0)


def chains(project, edit, *, locked=()):
    """The (file, list, chains) of all lists with items that stay, ascending."""
    return chains_of(ordered(Wish(project, edit, locked)))


def shows_chains(project, edit, value, *, locked=()):
    """Tell whether any value is what chains could return."""
    return are_chains(ordered(Wish(project, edit, locked)), value)


def ordered(wish):
    """A wish in which no item stands ahead of itself; raises Refused for one in which some do."""
    circling = wish.circling()
    if circling is not None:
        raise Refused("order", circling.circle())
    return wish


def chains_of(wish):
    """The chains of all lists with items that stay."""
    items = wish.standings
    return tuple([key + (items[key].chains(),) for key in items if items[key].staying])


def are_chains(wish, value):
    """Tell whether any value is the chains of all lists with items that stay."""
    listed = [key for key in wish.standings if wish.standings[key].staying]
    if not isinstance(value, tuple) or len(value) != len(listed):
        return False
    return all([is_entry(wish, key, part) for key, part in zip(listed, value)])


def is_entry(wish, key, value):
    """Tell whether any value is the (file, list, chains) of a list."""
    if not isinstance(value, tuple) or len(value) != 3 or value[:2] != key:
        return False
    return shows_few(wish.standings[key], value[2])


def shows_few(items, value):
    """Tell whether any value is ascending chains of the items of a list, as few as there can be."""
    if not isinstance(value, tuple) or not all([is_chain(items, chain) for chain in value]):
        return False
    serials = [serial for chain, _ in value for serial in chain]
    if sorted(serials) != sorted(items.staying) or len(value) != len(items.keeping()):
        return False
    return [chain for chain, _ in value] == sorted([chain for chain, _ in value])


def is_chain(items, value):
    """Tell whether any value is a chain of items of a list."""
    if not isinstance(value, tuple) or len(value) != 2 or not is_run(items, value[0]):
        return False
    serials, roads = value
    if not isinstance(roads, tuple) or len(roads) != len(serials) - 1:
        return False
    return all([is_road(items, road, serials[at + 1], serials[at]) for at, road in enumerate(roads)])


def is_run(items, value):
    """Tell whether any value is a tuple of items that stay, in the order of the list."""
    if not isinstance(value, tuple) or value == () or not all([is_serial(serial) for serial in value]):
        return False
    return list(value) == [serial for serial in items.staying if serial in value]


def is_road(items, value, start, end):
    """Tell whether any value is a road from an item to another one."""
    if not are_links(value) or value == () or value[0][0] != start:
        return False
    return items.is_road(value, end)


def are_links(value):
    """Tell whether any value is a tuple of pairs of a serial and what has the form of a place."""
    return are_pairs(value) and all([is_serial(serial) and is_place(place) for serial, place in value])


def is_circle(items, value):
    """Tell whether any value is a shortest circle of the items of a list."""
    if not are_links(value) or len(value) != len(items.circle()):
        return False
    return items.is_road(value, value[0][0])
