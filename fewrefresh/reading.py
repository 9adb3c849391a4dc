"""What to read now: the cheapest sources that are enough for a question, with doubts that nothing cheaper settles."""

from fewrefresh.basics import is_number, is_tuple_of
from fewrefresh.checks import MOST_TOLERANCE, check_network, is_node
from fewrefresh.errors import BadChoice, BadQuery, BadValues, TooLarge
from fewrefresh.hitting import first_cheapest, some_choice, total
from fewrefresh.networks import node_costs
from fewrefresh.situations import check_situation, is_dict_for, node_ranges

MOST_COMBINATIONS = 3000


def is_question(network, thing):
    """Return whether a thing is a question, a pair (name, tolerance)."""
    return is_tuple_of(thing, 2) and is_node(network, thing[0]) and is_number(thing[1], 0, MOST_TOLERANCE)


def check_question(network, situation, question):
    """Raise what is documented if network, situation or question is not one."""
    check_network(network)
    check_situation(network, situation)
    if not is_question(network, question):
        raise BadQuery("not a question")


def question_sources(network, name):
    """Return the list of the sources that are the node of a question or below it, in order."""
    nodes = network.below(name) + [name]
    return [source for source in network.sources() if source in nodes]


def check_size(network, situation, question):
    """Raise what is documented if something is not as asked or its sources have too many combinations of values."""
    check_question(network, situation, question)
    many = 1
    for source in question_sources(network, question[0]):
        low, high = situation[source]
        many *= high - low + 1
    if many > MOST_COMBINATIONS:
        raise TooLarge("more than 3000 combinations of values")


def is_chosen(network, thing):
    """Return whether a thing is a list or tuple of different sources, in order."""
    if not isinstance(thing, (list, tuple)):
        return False
    return list(thing) == [source for source in network.sources() if source in thing]


def are_possible(situation, thing):
    """Return whether a thing is a dict from some sources to values that they may have."""
    if not isinstance(thing, dict) or not all([source in situation for source in thing]):
        return False
    return all([is_number(worth, situation[source][0], situation[source][1]) for source, worth in thing.items()])


def range_with(network, situation, name, values):
    """Return the range of a node if some sources have these values."""
    spans = {source: (values[source], values[source]) if source in values else situation[source]
             for source in situation}
    return node_ranges(network, spans)[name]


def is_within(question, low, high):
    """Return whether a range is at most twice the tolerance of a question wide."""
    return high - low <= 2 * question[1]


def combinations(situation, sources):
    """Return the list of dicts from sources to possible values, in all combinations."""
    rows = [{}]
    for source in sources:
        low, high = situation[source]
        rows = [{**row, source: worth} for row in rows for worth in range(low, high + 1)]
    return rows


def unsettled(network, situation, question, chosen):
    """Return values of chosen sources with which the range is too wide, or None if the sources are enough."""
    name = question[0]
    # Other sources do not change the range, and may have any number of values.
    sources = [source for source in question_sources(network, name) if source in chosen]
    for values in combinations(situation, sources):
        low, high = range_with(network, situation, name, values)
        if not is_within(question, low, high):
            return values
    return None


def is_enough(network, situation, question, chosen):
    """Return whether it is enough for a question to read the chosen sources."""
    check_size(network, situation, question)
    if not is_chosen(network, chosen):
        raise BadChoice("not a list or tuple of different sources, in order")
    return unsettled(network, situation, question, chosen) is None


def outermost(network, situation, name, values, end):
    """Return an assignment with these values and a node at an end of its range: 0 is the least, 1 the greatest one."""
    goal = range_with(network, situation, name, values)[end]
    found = dict(values)
    for source in network.sources():
        if source not in found:
            # The ends of a range are reached at ends of the spans, and either one if the source does not matter.
            found[source] = situation[source][0]
            if range_with(network, situation, name, found)[end] != goal:
                found[source] = situation[source][1]
    return {source: found[source] for source in network.sources()}


def differing(doubt):
    """Return the list of the sources that have different values in the assignments of a doubt."""
    first, second = doubt
    return [source for source in first if first[source] != second[source]]


def is_assignment(network, situation, thing):
    """Return whether a thing is a dict from all sources to values that they may have."""
    return is_dict_for(network, thing) and are_possible(situation, thing)


def is_doubt(network, situation, question, thing):
    """Return whether a thing is a doubt, a pair of assignments with values of the node that are too far apart."""
    if not is_tuple_of(thing, 2) or not all([is_assignment(network, situation, part) for part in thing]):
        return False
    low, high = sorted([range_with(network, situation, question[0], part)[0] for part in thing])
    return not is_within(question, low, high)


def doubt_with(network, situation, question, values):
    """Return a doubt in which both assignments have these values, for which the range is too wide."""
    first = outermost(network, situation, question[0], values, 0)
    second = outermost(network, situation, question[0], values, 1)
    # The fewer sources have different values, the fewer sets meet the doubt.
    for source in differing((first, second)):
        closer = {**second, source: first[source]}
        if is_doubt(network, situation, question, (first, closer)):
            second = closer
    return first, second


def what_to_read(network, situation, question):
    """Return the first of the cheapest sets of sources that are enough for a question, with its doubts."""
    check_size(network, situation, question)
    costs = node_costs(network)
    doubts = []
    chosen = []
    values = unsettled(network, situation, question, chosen)
    # Each set that is enough meets the doubts. So as soon as the first cheapest one that meets those found
    # so far is enough, it is the first cheapest one of all.
    while values is not None:
        doubts.append(doubt_with(network, situation, question, values))
        chosen = first_cheapest([differing(doubt) for doubt in doubts], costs, total(costs, chosen))
        values = unsettled(network, situation, question, chosen)
    return Reading(chosen, doubts)


class Reading:
    """Sources that are enough for a question, and doubts that nothing cheaper settles."""

    def __init__(self, chosen, doubts):
        self.chosen = list(chosen)
        self.doubts = [(dict(first), dict(second)) for first, second in doubts]

    def __eq__(self, other):
        return isinstance(other, Reading) and self.chosen == other.chosen and self.doubts == other.doubts

    def shows(self, network, situation, question):
        """Return whether the chosen sources are enough, and the cheapest ones, as the doubts show."""
        check_size(network, situation, question)
        if not is_chosen(network, self.chosen) or unsettled(network, situation, question, self.chosen) is not None:
            return False
        if not all([is_doubt(network, situation, question, doubt) for doubt in self.doubts]):
            return False
        costs = node_costs(network)
        spent = total(costs, self.chosen)
        return some_choice([differing(doubt) for doubt in self.doubts], costs, spent - 1) is None


def middle(network, situation, question, values):
    """Return the middle of the range of a node if these values have been read, or None if the range is too wide."""
    check_question(network, situation, question)
    if not are_possible(situation, values):
        raise BadValues("not a dict from sources to values that they may have")
    low, high = range_with(network, situation, question[0], values)
    return (low + high) // 2 if is_within(question, low, high) else None
