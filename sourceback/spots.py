"""Spots: whether any value is one, what stands there, and what can be done there."""

from sourceback.kinds import Kinds
from sourceback.layers import defined, first_told, is_expression, levels_from, says
from sourceback.shapes import is_spot_shaped
from sourceback.trees import Loop, Record


class Spots:
    """The spots of a project. Those of the locked files are shut."""

    def __init__(self, project, locked):
        self.stored = project
        self.sources = project.sources
        self.finder = Kinds(project.sources)
        self.locked = locked

    def kind_at(self, spot):
        """The kind of the literals that a spot can have."""
        file, name, path = spot
        owner = self.sources.owner_at(file, name)
        if owner is None:
            return self.sources.known_stock(file, name).kinds()[path[1]]
        base, entry = field_to(self.sources, owner, path)
        return self.finder.of(base, entry)

    def is_open(self, spot):
        """Tell whether a literal can be given to a spot, or taken away there."""
        return spot[0] not in self.locked and not is_expression(value_at(self.stored, spot))

    def can_go(self, spot):
        """Tell whether a spot has a literal that can be taken away."""
        file, name, path = spot
        owner = self.sources.owner_at(file, name)
        if owner is None or value_at(self.stored, spot) is None or not self.is_open(spot):
            return False
        # The last level is a declaration, behind which there is nothing.
        return owner.parent is not None or len(path) > 1

    def price(self, spot):
        """The name of the cost of a set at an open spot."""
        if value_at(self.stored, spot) is not None:
            return "change"
        file, name, path = spot
        behind = levels_from(self.sources, self.sources.owner_at(file, name), path)
        return "cut" if is_expression(first_told(behind).value) else "add"


def value_at(project, spot):
    """The literal, sum or choice at a spot, or None."""
    file, name, path = spot
    owner = project.sources.owner_at(file, name)
    if owner is not None:
        return defined(owner, path)
    at = project.serials(file, name).index(path[0])
    return project.sources.known_stock(file, name).goods[at].named[path[1]].value


def is_spot(project, value):
    """Tell whether any value is a spot."""
    if not is_spot_shaped(value) or value[0] not in project:
        return False
    file, name, path = value
    owner = project.sources.owner_at(file, name)
    if owner is not None:
        return field_to(project.sources, owner, path) is not None and says(owner, path)
    stock = own_stock(project, file, name)
    return stock is not None and len(path) == 2 and is_field(project, stock, path)


def own_stock(project, file, name):
    """The list of this name in a file itself, or None."""
    return project.sources.known_stock(file, name) if project.has_list(file, name) else None


def is_field(project, stock, path):
    """Tell whether a path is the serial of an item of a list, and a field of it."""
    return path[0] in project.serials(stock.file, stock.name) and path[1] in stock.kinds()


def field_to(sources, owner, path):
    """The (base, entry) of the number or text to which a path with "*" behind rows fields leads, or None."""
    base = sources.base_of(owner)
    at = 0
    while at < len(path):
        entry = base.body.named.get(path[at])
        if entry is None:
            return None
        at += 1
        if not isinstance(entry.value, (Record, Loop)):
            return (base, entry) if at == len(path) else None
        if isinstance(entry.value, Loop):
            if at == len(path) or path[at] != "*":
                return None
            at += 1
        base = sources.inner(base, entry)
    return None
