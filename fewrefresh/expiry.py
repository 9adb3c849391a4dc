"""How long queries hold under a plan, and which sources their worst errors depend on."""

from fewrefresh.checks import check_planned, check_query
from fewrefresh.lags import holds, marked, query_ages, worst_errors


def lasts(network, horizon, plan, query):
    """Return the greatest tick up to the horizon up to which a query holds, or None if it does not hold at its own."""
    check_planned(network, horizon, plan)
    check_query(network, horizon, query)
    tick, name, tolerance = query
    done = marked(plan)
    last = None
    while tick <= horizon and holds(network, done, (tick, name, tolerance)):
        last = tick
        tick += 1
    return last


def weighing(network, horizon, plan, query):
    """Return the list of the sources that weigh: the worst error would be greater if they were older by one tick."""
    check_planned(network, horizon, plan)
    check_query(network, horizon, query)
    name = query[1]
    ages = query_ages(network, marked(plan), query)
    error = worst_errors(network, name, ages)[name]
    return [source for source in ages
            if worst_errors(network, name, {**ages, source: ages[source] + 1})[name] > error]
