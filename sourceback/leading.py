"""Leading edits back to the sources, and telling whether papers show what they say."""

from sourceback.costs import all_costs, chosen_cost, orders_cost
from sourceback.deeds import Deeds, Planner
from sourceback.errors import Refused
from sourceback.papers import Paper
from sourceback.plans import made
from sourceback.rows import are_chains, chains_of, is_circle, moves
from sourceback.search import Search, bounded_ground, ground_of, prices_of
from sourceback.shapes import is_place, is_serial
from sourceback.values import labelled


class Led:
    """What leading an edit back gives: the new project, the plan, its cost, and the paper that shows it."""

    def __init__(self, project, plan, cost, paper):
        self._project = project
        self.plan = plan
        self.cost = cost
        self.paper = paper

    @property
    def project(self):
        """The new project."""
        return self._project


def lead(project, edit, *, locked=(), **costs):
    """Change the sources as cheaply as can be so that the outputs are what an edit wishes."""
    return led_back(project, edit, locked, all_costs(**costs))


def led_back(project, edit, locked, prices):
    """Lead an edit back, with all costs by their names."""
    ground = ground_of(project, edit, locked)
    search = Search(ground, prices)
    tree = search.refutation()
    if tree is not None:
        raise Refused("spots", tree)
    orders = ground.asked.new_orders()
    ordered = [("order", file, name, serials) for (file, name), serials in orders.items()]
    plan = tuple(sorted(search.all_deeds() + ordered))
    cost = search.least_cost() + orders_cost(project, orders, prices)
    return Led(made(project, plan), plan, cost, (search.tree(), chains_of(ground.asked)))


def shows_led(project, edit, value, *, locked=(), **costs):
    """Tell whether any value is a plan for an edit and a paper that shows that none costs less."""
    prices = all_costs(**costs)
    ground = bounded_ground(project, edit, locked)
    if not isinstance(value, tuple) or len(value) != 2 or not does_wish(ground.asked, value[0]):
        return False
    plan, paper = value
    if not isinstance(paper, tuple) or len(paper) != 2 or not are_chains(ground.asked, paper[1]):
        return False
    bound = chosen_cost(ground.spots, Deeds(plan), prices)
    return Paper(ground, prices_of(ground, prices), bound).holds(paper[0])


def does_wish(wish, value):
    """Tell whether any value is a plan for a wish that gives the wished outputs and moves as few items as can be."""
    if wish.refusal() is not None or not Planner(wish.stored, wish.locked).is_plan(value):
        return False
    orders = Deeds(value).orders
    if not all([is_fit(items, orders.get(key, items.now)) for key, items in wish.standings.items()]):
        return False
    project = made(wish.stored, value)
    return all([labelled(project, file) == wish.outputs.record(file) for file in project.documents])


def is_fit(items, serials):
    """Tell whether an order of a list has the items that stay and come, and moves as few as can be."""
    if sorted(serials) != sorted(items.staying + items.arriving):
        return False
    return moves(items.now, serials) == len(items.staying) - len(items.keeping())


def shows_refused(project, edit, value, *, locked=(), **costs):
    """Tell whether any value is a word and a paper with which an edit is refused."""
    prices = all_costs(**costs)
    ground = bounded_ground(project, edit, locked)
    if not isinstance(value, tuple) or len(value) != 2 or not isinstance(value[0], str):
        return False
    word, paper = value
    refusal = ground.asked.refusal()
    if refusal is None:
        return word == "spots" and Paper(ground, prices_of(ground, prices), None).holds(paper)
    if word != refusal[0]:
        return False
    if word == "order":
        return is_circle(ground.asked.circling(), paper)
    return has_plain_form(paper) and paper == refusal[1]


def has_plain_form(value):
    """Tell whether any value may be a file and a list, or a rows place and a serial."""
    if not isinstance(value, tuple) or len(value) != 2:
        return False
    return isinstance(value[0], str) or (is_place(value[0]) and is_serial(value[1]))
