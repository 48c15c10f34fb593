"""Plans: deeds that change the sources, what they cost, and the project with them."""

from sourceback.costs import all_costs, chosen_cost, orders_cost
from sourceback.deeds import Deeds, Planner, new_serials
from sourceback.errors import BadPlan
from sourceback.projects import numbered
from sourceback.spots import Spots
from sourceback.writer import written_files


def is_plan(project, value, *, locked=()):
    """Tell whether any value is a plan."""
    return Planner(project, locked).is_plan(value)


def made(project, plan):
    """The project with the deeds of a plan."""
    deeds = deeds_of(project, plan)
    serials = {}
    nexts = {}
    for file, name in project.lists():
        order = deeds.orders.get((file, name), project.serials(file, name))
        serials[(file, name)] = order
        nexts[(file, name)] = project.next_serial(file, name) + len(new_serials(project, file, name, order))
    return numbered(written_files(project, deeds), serials, nexts)


def cost_of(project, plan, **costs):
    """What a plan costs."""
    deeds = deeds_of(project, plan)
    prices = all_costs(**costs)
    return chosen_cost(Spots(project, ()), deeds, prices) + orders_cost(project, deeds.orders, prices)


def deeds_of(project, plan):
    """The deeds of a plan; raises BadPlan for any value that is none."""
    if not is_plan(project, plan):
        raise BadPlan(plan)
    return Deeds(plan)
