"""Situations: what the values of sources that were read some time ago may be now, and the ranges of all nodes."""

from fewrefresh.basics import is_number, is_tuple_of
from fewrefresh.checks import check_network
from fewrefresh.errors import BadNumber, BadRecords, BadSituation
from fewrefresh.formulas import ranged

MOST_TICK = 99
MOST_READ = 9999
MOST_POSSIBLE = 99999


def is_dict_for(network, thing):
    """Return whether a thing is a dict from all sources, in any order."""
    sources = network.sources()
    return isinstance(thing, dict) and len(thing) == len(sources) and all([name in thing for name in sources])


def is_record(thing):
    """Return whether a thing is a pair (tick, value)."""
    return is_tuple_of(thing, 2) and is_number(thing[0], 0, MOST_TICK) and is_number(thing[1], -MOST_READ, MOST_READ)


def check_records(network, records):
    """Raise BadRecords if a thing is not records of all sources."""
    if not is_dict_for(network, records) or not all([is_record(pair) for pair in records.values()]):
        raise BadRecords("not records of all sources")


def is_span(thing):
    """Return whether a thing is a pair (low, high) of possible values."""
    if not is_tuple_of(thing, 2) or not is_number(thing[1], -MOST_POSSIBLE, MOST_POSSIBLE):
        return False
    return is_number(thing[0], -MOST_POSSIBLE, thing[1])


def check_situation(network, situation):
    """Raise BadSituation if a thing is not a situation."""
    if not is_dict_for(network, situation) or not all([is_span(pair) for pair in situation.values()]):
        raise BadSituation("not a situation")


def situation(network, records, tick):
    """Return a dict from all sources, in order, to pairs of their least and greatest possible values at a tick."""
    check_network(network)
    check_records(network, records)
    if not is_number(tick, 0, MOST_TICK) or any([tick < when for when, read in records.values()]):
        raise BadNumber("not a tick from 0 to 99 that no record is after")
    spans = {}
    for name, pair in network.sources().items():
        when, read = records[name]
        reach = pair[0] * (tick - when)
        spans[name] = (read - reach, read + reach)
    return spans


def node_ranges(network, spans):
    """Return a dict from all names, in order, to their ranges for a situation that is already checked."""
    known = {name: spans[name] for name in network.sources()}
    for name, pair in network.views().items():
        known[name] = ranged(pair[0], known)
    return known


def ranges(network, situation):
    """Return a dict from all names, in order, to pairs of their least and greatest possible values."""
    check_network(network)
    check_situation(network, situation)
    return node_ranges(network, situation)
