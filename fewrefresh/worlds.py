"""Worlds: what the nodes are worth at each tick, what their caches hold, and how queries are answered."""

from fewrefresh.basics import is_whole
from fewrefresh.checks import check_horizon, check_network, check_node, check_plan, check_queries, check_tick
from fewrefresh.errors import BadWorld
from fewrefresh.formulas import computed


def is_course(thing, horizon, drift):
    """Return whether a thing is a list of a source's values from tick 0 to the horizon."""
    if not isinstance(thing, list) or len(thing) != horizon + 1:
        return False
    if not all([is_whole(worth) for worth in thing]):
        return False
    return all([abs(thing[tick] - thing[tick - 1]) <= drift for tick in range(1, horizon + 1)])


def is_world(network, horizon, thing):
    """Return whether a thing is a world for the horizon."""
    check_network(network)
    check_horizon(horizon)
    sources = network.sources()
    if not isinstance(thing, dict) or len(thing) != len(sources):
        return False
    return all([name in thing and is_course(thing[name], horizon, pair[0]) for name, pair in sources.items()])


def check_world(network, horizon, world):
    """Raise what is documented if network, horizon or world is not one."""
    if not is_world(network, horizon, world):
        raise BadWorld("not a world for this network and horizon")


def values_at(network, world, tick):
    """Return a dict from all names, in order, to the values of the nodes at a tick."""
    known = {name: world[name][tick] for name in network.sources()}
    for name, pair in network.views().items():
        known[name] = computed(pair[0], known)
    return known


def value(network, horizon, world, name, tick):
    """Return the value of a node at a tick."""
    check_world(network, horizon, world)
    check_node(network, name)
    check_tick(horizon, tick)
    return values_at(network, world, tick)[name]


def refreshed(network, world, held, name, tick):
    """Return what the cache of a node is set to by a refresh at a tick, if the caches hold this before."""
    views = network.views()
    if name in views:
        return computed(views[name][0], held)
    return world[name][tick]


def caches(network, horizon, world, plan):
    """Return a list with a dict from all names to the caches after the refreshes of each tick."""
    check_world(network, horizon, world)
    check_plan(network, horizon, plan)
    held = values_at(network, world, 0)
    rows = [dict(held)]
    for tick in range(1, horizon + 1):
        # A plan lists the refreshes of a tick in the order in which they are executed.
        for when, name in plan:
            if when == tick:
                held[name] = refreshed(network, world, held, name, tick)
        rows.append(dict(held))
    return rows


def answers(network, horizon, world, plan, queries):
    """Return a list with a pair of the answer and the error for each query."""
    rows = caches(network, horizon, world, plan)
    check_queries(network, horizon, queries)
    pairs = []
    for tick, name, tolerance in queries:
        answer = rows[tick][name]
        pairs.append((answer, abs(answer - values_at(network, world, tick)[name])))
    return pairs
