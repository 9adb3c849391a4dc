"""Plans: their costs, whether they are sufficient, and what can be removed from them or delayed."""

from fewrefresh.checks import check_planned, check_queries
from fewrefresh.errors import NotSufficient
from fewrefresh.lags import all_hold, marked, worst_error
from fewrefresh.networks import node_costs


def cost(network, horizon, plan):
    """Return the cost of a plan."""
    check_planned(network, horizon, plan)
    costs = node_costs(network)
    return sum([costs[name] for tick, name in plan])


def is_sufficient(network, horizon, plan, queries):
    """Return whether no worst error exceeds the tolerance of its query."""
    check_planned(network, horizon, plan)
    check_queries(network, horizon, queries)
    return all_hold(network, marked(plan), queries)


def check_sufficient(network, horizon, plan, queries):
    """Raise NotSufficient if a plan is not sufficient."""
    if not is_sufficient(network, horizon, plan, queries):
        raise NotSufficient("a worst error exceeds its tolerance")


def slacks(network, horizon, plan, queries):
    """Return the list of the slacks of the queries."""
    check_sufficient(network, horizon, plan, queries)
    return [query[2] - worst_error(network, marked(plan), query) for query in queries]


def without(plan, refresh):
    """Return a plan without one of its refreshes."""
    return [other for other in plan if other != refresh]


def ordered(network, horizon, refreshes):
    """Return different refreshes as a plan, in order."""
    return [(tick, name) for tick in range(1, horizon + 1) for name in network.names() if (tick, name) in refreshes]


def redundant(network, horizon, plan, queries):
    """Return the list of the redundant refreshes of a plan."""
    check_sufficient(network, horizon, plan, queries)
    return [refresh for refresh in plan if all_hold(network, marked(without(plan, refresh)), queries)]


def trimmed(network, horizon, plan, queries):
    """Return what remains of a plan if each refresh, from the last one on, is removed if it is redundant."""
    check_sufficient(network, horizon, plan, queries)
    left = list(plan)
    for refresh in reversed(plan):
        fewer = without(left, refresh)
        if all_hold(network, marked(fewer), queries):
            left = fewer
    return left


def delayed_refresh(network, horizon, plan, queries, refresh):
    """Return the latest refresh of the same node, up to this one, with which a plan remains sufficient."""
    name = refresh[1]
    done = marked(without(plan, refresh))
    for tick in range(horizon, refresh[0], -1):
        later = (tick, name)
        if later not in done:
            done[later] = True
            if all_hold(network, done, queries):
                return later
            del done[later]
    return refresh


def delayed(network, horizon, plan, queries):
    """Return the plan in which each refresh, from the last one on, is moved to the latest possible tick."""
    check_sufficient(network, horizon, plan, queries)
    left = list(plan)
    for refresh in reversed(plan):
        left = without(left, refresh) + [delayed_refresh(network, horizon, left, queries, refresh)]
    return ordered(network, horizon, left)
