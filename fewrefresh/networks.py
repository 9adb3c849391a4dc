"""Networks of drifting sources and of views that are computed from them."""

from fewrefresh.basics import is_name, is_number, is_tuple_of
from fewrefresh.errors import BadNetwork, BadQuery
from fewrefresh.formulas import formula_inputs, is_formula

MOST_NODES = 8
MOST_DRIFT = 20
LEAST_COST = 1
MOST_COST = 9


def is_cost(thing):
    """Return whether a thing is the cost of a refresh."""
    return is_number(thing, LEAST_COST, MOST_COST)


def is_source(name, pair):
    """Return whether a name and a pair (drift, cost) make a source."""
    return is_name(name) and is_tuple_of(pair, 2) and is_number(pair[0], 0, MOST_DRIFT) and is_cost(pair[1])


def is_view(name, pair):
    """Return whether a name and a pair (formula, cost) make a view, whatever its inputs are called."""
    return is_name(name) and is_tuple_of(pair, 2) and is_formula(pair[0]) and is_cost(pair[1])


def check_sources(sources):
    """Raise BadNetwork if the sources are not those of a network."""
    if not isinstance(sources, dict) or not 1 <= len(sources) <= MOST_NODES:
        raise BadNetwork("sources")
    if not all([is_source(name, pair) for name, pair in sources.items()]):
        raise BadNetwork("sources")


def check_views(sources, views):
    """Raise BadNetwork if the views cannot stand behind these sources."""
    if not isinstance(views, dict) or len(sources) + len(views) > MOST_NODES:
        raise BadNetwork(None)
    free = {name: True for name in sources}
    for name, pair in views.items():
        if name in free or not is_view(name, pair):
            raise BadNetwork(name)
        for lower in formula_inputs(pair[0]):
            # Marked False: already an input of a view. Missing: not a node that stands before this view.
            if not free.get(lower, False):
                raise BadNetwork(name)
            free[lower] = False
        free[name] = True


class Network:
    """A network: sources with their drifts and costs, views with their formulas and costs."""

    def __init__(self, sources, views):
        check_sources(sources)
        check_views(sources, views)
        # Tuples, so that nothing that is handed out can change the network.
        self.source_rows = tuple(sources.items())
        self.view_rows = tuple(views.items())

    def __eq__(self, other):
        return (isinstance(other, Network) and self.source_rows == other.source_rows
                and self.view_rows == other.view_rows)

    def sources(self):
        """Return a dict from the names of the sources to pairs (drift, cost)."""
        return dict(self.source_rows)

    def views(self):
        """Return a dict from the names of the views to pairs (formula, cost)."""
        return dict(self.view_rows)

    def names(self):
        """Return the names of all nodes, in order."""
        return [name for name, pair in self.source_rows + self.view_rows]

    def below(self, name):
        """Return the names of the nodes below a node, in order."""
        names = self.names()
        if not isinstance(name, str) or name not in names:
            raise BadQuery("not the name of a node")
        reached = {name: True}
        # Inputs stand before their view, so one pass from the last view to the first finds all.
        for view, pair in reversed(self.view_rows):
            if view in reached:
                reached.update({lower: True for lower in formula_inputs(pair[0])})
        return [node for node in names if node in reached and node != name]


def node_costs(network):
    """Return a dict from the names of all nodes, in order, to their costs."""
    return {name: pair[1] for name, pair in network.source_rows + network.view_rows}
