"""Formulas of views: their form, their inputs, what they compute, and how far off it can be."""

from fewrefresh.basics import is_name, is_number, is_tuple_of

KINDS = ("sum", "min", "max")
LEAST_FACTOR = -5
MOST_FACTOR = 5
MOST_INPUTS = 4


def is_term(thing):
    """Return whether a thing is a term of a sum, a pair (factor, input)."""
    if not is_tuple_of(thing, 2) or not is_name(thing[1]):
        return False
    return is_number(thing[0], LEAST_FACTOR, MOST_FACTOR) and thing[0] != 0


def is_formula(thing):
    """Return whether a thing has the form of a formula, whatever its inputs are called."""
    if not is_tuple_of(thing, 2) or not isinstance(thing[0], str) or thing[0] not in KINDS:
        return False
    kind, parts = thing
    if not isinstance(parts, tuple) or not 1 <= len(parts) <= MOST_INPUTS:
        return False
    if kind == "sum":
        return all([is_term(part) for part in parts])
    return all([is_name(part) for part in parts])


def formula_inputs(formula):
    """Return the list of the inputs of a formula, as often as they stand in it."""
    kind, parts = formula
    if kind == "sum":
        return [name for factor, name in parts]
    return list(parts)


def computed(formula, known):
    """Return what a formula gives for a dict that holds a number for each of its inputs."""
    kind, parts = formula
    if kind == "sum":
        return sum([factor * known[name] for factor, name in parts])
    if kind == "min":
        return min([known[name] for name in parts])
    return max([known[name] for name in parts])


def widened(formula, known):
    """Return how far off a formula can be for a dict that holds how far off each of its inputs can be."""
    kind, parts = formula
    if kind == "sum":
        return sum([abs(factor) * known[name] for factor, name in parts])
    return max([known[name] for name in parts])


def ranged(formula, spans):
    """Return the least and the greatest result of a formula for a dict with those of each of its inputs."""
    kind, parts = formula
    if kind == "sum":
        # A negative factor turns the span of its input around.
        ends = [sorted([factor * spans[name][0], factor * spans[name][1]]) for factor, name in parts]
        return sum([low for low, high in ends]), sum([high for low, high in ends])
    lows = {name: spans[name][0] for name in parts}
    highs = {name: spans[name][1] for name in parts}
    return computed(formula, lows), computed(formula, highs)
