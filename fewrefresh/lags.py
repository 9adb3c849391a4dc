"""How far caches lag behind, for arguments that are already checked.

`done` is a dict whose keys are the refreshes that are executed: looking one up in it takes no search.
"""

from fewrefresh.formulas import formula_inputs, widened


def marked(plan):
    """Return a dict whose keys are the refreshes of a plan."""
    return {refresh: True for refresh in plan}


def last_refresh(done, name, tick):
    """Return the tick of the last refresh of a node up to a tick, 0 if there is none."""
    while tick > 0 and (tick, name) not in done:
        tick -= 1
    return tick


def query_ages(network, done, query):
    """Return a dict from the sources that are the queried node or below it, in order, to their ages."""
    tick, name, tolerance = query
    views = network.views()
    # What the queried cache holds was in the cache of each node at this tick.
    seen = {name: tick}
    for node in reversed(network.below(name) + [name]):
        seen[node] = last_refresh(done, node, seen[node])
        if node in views:
            seen.update({lower: seen[node] for lower in formula_inputs(views[node][0])})
    return {source: tick - seen[source] for source in network.sources() if source in seen}


def worst_errors(network, name, ages):
    """Return a dict from the nodes below a node and the node itself, in order, to their worst errors."""
    sources = network.sources()
    views = network.views()
    known = {}
    for node in network.below(name) + [name]:
        if node in views:
            known[node] = widened(views[node][0], known)
        else:
            known[node] = sources[node][0] * ages[node]
    return known


def worst_error(network, done, query):
    """Return the worst error of a query."""
    return worst_errors(network, query[1], query_ages(network, done, query))[query[1]]


def holds(network, done, query):
    """Return whether the worst error of a query is within its tolerance."""
    return worst_error(network, done, query) <= query[2]


def all_hold(network, done, queries):
    """Return whether all worst errors are within the tolerances of their queries."""
    return all([holds(network, done, query) for query in queries])
