"""Cheapest plans, with bounds that show that they suffice and cuts that show that no cheaper one does."""

from fewrefresh.basics import is_number
from fewrefresh.checks import check_horizon, check_network, check_plan, check_queries, is_plan
from fewrefresh.errorbounds import are_bounds, example, least_bounds
from fewrefresh.errors import TooLarge
from fewrefresh.hitting import first_cheapest, some_choice, total
from fewrefresh.lags import holds, marked
from fewrefresh.networks import node_costs
from fewrefresh.worlds import answers, is_world

MOST_NODES = 5
MOST_HORIZON = 6
MOST_QUERIES = 3


def check_task(network, horizon, queries, kept):
    """Raise what is documented if a cheapest plan cannot be asked for."""
    check_network(network)
    check_horizon(horizon)
    check_queries(network, horizon, queries)
    check_plan(network, horizon, kept)
    if len(network.names()) > MOST_NODES or horizon > MOST_HORIZON or len(queries) > MOST_QUERIES:
        raise TooLarge("more than 5 nodes, 6 ticks or 3 queries")


def refresh_costs(network, horizon):
    """Return a dict from all refreshes, ordered like a plan, to their costs."""
    costs = node_costs(network)
    return {(tick, name): costs[name] for tick in range(1, horizon + 1) for name in costs}


def all_except(network, horizon, refreshes):
    """Return the plan of all refreshes except those in a list."""
    return [refresh for refresh in refresh_costs(network, horizon) if refresh not in refreshes]


def missing(network, refreshes, done, query):
    """Return refreshes, none of them done, without which a query does not hold if all others are executed.

    With all others and any one of them, it does hold.
    """
    most = {refresh: True for refresh in done}
    for refresh in reversed(refreshes):
        most[refresh] = True
        if holds(network, most, query):
            del most[refresh]
    return [refresh for refresh in refreshes if refresh not in most]


def missing_lists(network, queries, costs, plan):
    """Return pairs (refreshes, index of a query), each of them a list that a plan misses, none if it is sufficient."""
    done = marked(plan)
    pairs = []
    for index in range(len(queries)):
        while not holds(network, done, queries[index]):
            refreshes = missing(network, list(costs), done, queries[index])
            pairs.append((refreshes, index))
            # With one of them executed the plan misses this list no longer, so the next one is another.
            done[min([(costs[other], other) for other in refreshes])[1]] = True
    return pairs


def searched(network, queries, costs, kept):
    """Return the first of the cheapest choices of refreshes beside those kept, and pairs as in missing_lists.

    Each sufficient plan meets the lists. So as soon as the first cheapest choice that meets those
    found so far is sufficient, it is the first cheapest one of all.
    """
    pairs = []
    chosen = []
    more = missing_lists(network, queries, costs, list(kept))
    while more:
        pairs.extend(more)
        chosen = first_cheapest([refreshes for refreshes, index in pairs], costs, total(costs, chosen))
        more = missing_lists(network, queries, costs, list(kept) + chosen)
    return chosen, pairs


def made_cut(network, horizon, queries, refreshes, index):
    """Return the cut with these refreshes for the query of an index."""
    world = example(network, horizon, all_except(network, horizon, refreshes), queries[index])
    return refreshes, index, world


def cheapest(network, horizon, queries, *, kept=()):
    """Return the first of the cheapest sufficient plans that contain what is kept, with its bounds and cuts."""
    check_task(network, horizon, queries, kept)
    costs = refresh_costs(network, horizon)
    chosen, pairs = searched(network, queries, costs, kept)
    plan = [refresh for refresh in costs if refresh in kept or refresh in chosen]
    bounds = [least_bounds(network, horizon, plan, query) for query in queries]
    cuts = [made_cut(network, horizon, queries, refreshes, index) for refreshes, index in pairs]
    return Cheapest(plan, bounds, cuts)


def is_cut(network, horizon, queries, kept, cut):
    """Return whether a triple of refreshes, an index and a world is a cut without refreshes that are kept."""
    refreshes, index, world = cut
    if not is_plan(network, horizon, refreshes) or not is_number(index, 0, len(queries) - 1):
        return False
    if not is_world(network, horizon, world) or any([refresh in kept for refresh in refreshes]):
        return False
    others = all_except(network, horizon, refreshes)
    answer, error = answers(network, horizon, world, others, [queries[index]])[0]
    return error > queries[index][2]


class Cheapest:
    """A cheapest plan, bounds for each query, and cuts."""

    def __init__(self, plan, bounds, cuts):
        self.plan = list(plan)
        self.bounds = [dict(row) for row in bounds]
        self.cuts = [(list(refreshes), index, {name: list(course) for name, course in world.items()})
                     for refreshes, index, world in cuts]

    def __eq__(self, other):
        return (isinstance(other, Cheapest) and self.plan == other.plan and self.bounds == other.bounds
                and self.cuts == other.cuts)

    def shows(self, network, horizon, queries, *, kept=()):
        """Return whether the plan is sufficient, as its bounds show, and cheapest, as its cuts show."""
        check_task(network, horizon, queries, kept)
        if not is_plan(network, horizon, self.plan) or not all([refresh in self.plan for refresh in kept]):
            return False
        if len(self.bounds) != len(queries):
            return False
        if not all([are_bounds(network, horizon, self.plan, queries[index], self.bounds[index])
                    for index in range(len(queries))]):
            return False
        if not all([is_cut(network, horizon, queries, kept, cut) for cut in self.cuts]):
            return False
        costs = refresh_costs(network, horizon)
        spent = total(costs, [refresh for refresh in self.plan if refresh not in kept])
        return some_choice([refreshes for refreshes, index, world in self.cuts], costs, spent - 1) is None
