"""Worst errors of queries, worlds that reach them, and bounds that are evidence for a tolerance."""

from fewrefresh.basics import is_whole
from fewrefresh.checks import check_planned, check_query
from fewrefresh.formulas import widened
from fewrefresh.lags import marked, query_ages, worst_errors


def ages(network, horizon, plan, query):
    """Return a dict from the sources that are the queried node or below it, in order, to their ages."""
    check_planned(network, horizon, plan)
    check_query(network, horizon, query)
    return query_ages(network, marked(plan), query)


def least_bounds(network, horizon, plan, query):
    """Return a dict from the queried node and all nodes below it, in order, to their worst errors."""
    # The ages come first, because the query is checked there.
    lags = ages(network, horizon, plan, query)
    return worst_errors(network, query[1], lags)


def worst(network, horizon, plan, query):
    """Return the worst error of a query."""
    bounds = least_bounds(network, horizon, plan, query)
    return bounds[query[1]]


def is_bound(network, lags, bounds, name):
    """Return whether the bound of a node is at least what its source or the bounds of its inputs ask for."""
    views = network.views()
    if name in views:
        return bounds[name] >= widened(views[name][0], bounds)
    return bounds[name] >= network.sources()[name][0] * lags[name]


def are_bounds(network, horizon, plan, query, bounds):
    """Return whether bounds are evidence that a query stays within its tolerance."""
    lags = ages(network, horizon, plan, query)
    name, tolerance = query[1:]
    nodes = network.below(name) + [name]
    if len(bounds) != len(nodes) or not all([node in bounds and is_whole(bounds[node]) for node in nodes]):
        return False
    return bounds[name] <= tolerance and all([is_bound(network, lags, bounds, node) for node in nodes])


def placed_inputs(formula, place, errors, gap):
    """Return a dict from the inputs of a view to their places, for the place of the view.

    A place is a pair (start, way). With the way 1 or -1, the node is worth 0 when it is read, and its
    worst error more or less than that at the tick of the query. With the way 0, it is constant: worth the
    start, or what is even farther from 0 on the same side.
    """
    start, way = place
    kind, parts = formula
    if kind == "sum":
        return {name: place if factor > 0 else (-start, -way) for factor, name in parts}
    most = max([errors[name] for name in parts])
    leading = [name for name in parts if errors[name] == most][0]
    # The others stay so far behind that they never decide.
    other = (start - gap if kind == "max" else start + gap, 0)
    return {name: place if name == leading else other for name in parts}


def places(network, name, errors):
    """Return a dict with the places of a node and all nodes below it such that the node is off by its worst error."""
    views = network.views()
    found = {name: (0, 1)}
    for node in reversed(list(errors)):
        if node in views:
            # No node below is off by more than this one.
            found.update(placed_inputs(views[node][0], found[node], errors, errors[name]))
    return found


def example(network, horizon, plan, query):
    """Return a world in which the error of a query is its worst error."""
    lags = ages(network, horizon, plan, query)
    tick, name, tolerance = query
    found = places(network, name, worst_errors(network, name, lags))
    world = {}
    for source, pair in network.sources().items():
        start, way = found.get(source, (0, 0))
        lag = lags.get(source, 0)
        # Constant until it is read, then on its way until the tick of the query, then constant again.
        steps = [min(max(at - tick + lag, 0), lag) for at in range(horizon + 1)]
        world[source] = [start + way * pair[0] * step for step in steps]
    return world
