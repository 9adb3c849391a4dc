"""Checks of the arguments that many functions have in common."""

from fewrefresh.basics import is_number, is_tuple_of
from fewrefresh.errors import BadNetwork, BadNumber, BadPlan, BadQuery
from fewrefresh.networks import Network

MOST_HORIZON = 12
MOST_TOLERANCE = 999
MOST_QUERIES = 20


def check_network(network):
    """Raise BadNetwork if a thing is not a network."""
    if not isinstance(network, Network):
        raise BadNetwork(None)


def check_horizon(horizon):
    """Raise BadNumber if a thing is not a horizon."""
    if not is_number(horizon, 1, MOST_HORIZON):
        raise BadNumber("not a horizon")


def check_tick(horizon, tick):
    """Raise BadNumber if a thing is not a tick of the horizon."""
    if not is_number(tick, 0, horizon):
        raise BadNumber("not a tick of the horizon")


def is_node(network, thing):
    """Return whether a thing is the name of a node."""
    return isinstance(thing, str) and thing in network.names()


def check_node(network, name):
    """Raise BadQuery if a thing is not the name of a node."""
    if not is_node(network, name):
        raise BadQuery("not the name of a node")


def is_refresh(network, horizon, thing):
    """Return whether a thing is a refresh, a pair (tick, name)."""
    return is_tuple_of(thing, 2) and is_number(thing[0], 1, horizon) and is_node(network, thing[1])


def is_plan(network, horizon, thing):
    """Return whether a thing is a list or tuple of different refreshes, in order."""
    if not isinstance(thing, (list, tuple)):
        return False
    if not all([is_refresh(network, horizon, refresh) for refresh in thing]):
        return False
    names = network.names()
    places = [(tick, names.index(name)) for tick, name in thing]
    return all([places[at - 1] < places[at] for at in range(1, len(places))])


def check_plan(network, horizon, plan):
    """Raise BadPlan if a thing is not a plan."""
    if not is_plan(network, horizon, plan):
        raise BadPlan("not a list or tuple of different refreshes, in order")


def check_planned(network, horizon, plan):
    """Raise what is documented if network, horizon or plan is not one."""
    check_network(network)
    check_horizon(horizon)
    check_plan(network, horizon, plan)


def is_query(network, horizon, thing):
    """Return whether a thing is a query, a triple (tick, name, tolerance)."""
    if not is_tuple_of(thing, 3) or not is_number(thing[0], 0, horizon):
        return False
    return is_node(network, thing[1]) and is_number(thing[2], 0, MOST_TOLERANCE)


def check_query(network, horizon, query):
    """Raise BadQuery if a thing is not a query."""
    if not is_query(network, horizon, query):
        raise BadQuery("not a query")


def are_queries(network, horizon, thing):
    """Return whether a thing is a list or tuple of 1 to 20 queries."""
    if not isinstance(thing, (list, tuple)) or not 1 <= len(thing) <= MOST_QUERIES:
        return False
    return all([is_query(network, horizon, query) for query in thing])


def check_queries(network, horizon, queries):
    """Raise BadQuery if a thing is not a list or tuple of 1 to 20 queries."""
    if not are_queries(network, horizon, queries):
        raise BadQuery("not a list or tuple of 1 to 20 queries")
