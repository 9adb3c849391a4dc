"""Networks, plans and queries as text, and read from it."""

from fewrefresh.basics import is_name
from fewrefresh.checks import are_queries, check_horizon, check_network, check_planned, check_queries, is_plan
from fewrefresh.errors import BadNetwork, BadText
from fewrefresh.networks import Network

DIGITS = "0123456789"
MOST_DIGITS = 3


def text_of(rows):
    """Return the text of rows of words."""
    return "".join([" ".join(words) + "\n" for words in rows])


def formula_words(formula):
    """Return the list of the words of a formula."""
    kind, parts = formula
    if kind == "sum":
        return [kind] + [f"{factor}*{name}" for factor, name in parts]
    return [kind] + list(parts)


def network_text(network):
    """Return the text of a network."""
    check_network(network)
    rows = [["source", name, str(pair[0]), str(pair[1])] for name, pair in network.sources().items()]
    for name, pair in network.views().items():
        rows.append(["view", name, str(pair[1])] + formula_words(pair[0]))
    return text_of(rows)


def plan_text(network, horizon, plan):
    """Return the text of a plan."""
    check_planned(network, horizon, plan)
    return text_of([["refresh", str(tick), name] for tick, name in plan])


def queries_text(network, horizon, queries):
    """Return the text of queries."""
    check_network(network)
    check_horizon(horizon)
    check_queries(network, horizon, queries)
    return text_of([["query", str(tick), name, str(tolerance)] for tick, name, tolerance in queries])


def read_number(word):
    """Return the integer of at most three digits that a word writes, or None."""
    digits = word[1:] if word.startswith("-") else word
    if not 1 <= len(digits) <= MOST_DIGITS or not all([digit in DIGITS for digit in digits]):
        return None
    number = int(word)
    # Written anew, leading zeros and the sign of -0 are gone.
    return number if str(number) == word else None


def read_name(word):
    """Return the name that a word is, or None."""
    return word if is_name(word) else None


def read_words(words, readers):
    """Return the tuple of what words say, each read by its reader, or None if one of them cannot be read."""
    if len(words) != len(readers):
        return None
    said = [read(word) for read, word in zip(readers, words)]
    return None if None in said else tuple(said)


def read_term(word):
    """Return the term (factor, input) that a word writes, or None."""
    factor, star, name = word.partition("*")
    return read_words([factor, name], (read_number, read_name))


def read_source(words):
    """Return the pair (name, (drift, cost)) that the words of a line say, or None."""
    said = read_words(words, (read_name, read_number, read_number))
    return None if said is None else (said[0], said[1:])


INPUT_READERS = {"sum": read_term, "min": read_name, "max": read_name}


def read_view(words):
    """Return the pair (name, (formula, cost)) that the words of a line say, or None."""
    said = read_words(words[:2], (read_name, read_number))
    if said is None or len(words) < 4 or words[2] not in INPUT_READERS:
        return None
    read = INPUT_READERS[words[2]]
    inputs = [read(word) for word in words[3:]]
    return None if None in inputs else (said[0], ((words[2], tuple(inputs)), said[1]))


def read_refresh(words):
    """Return the refresh that the words of a line say, or None."""
    return read_words(words, (read_number, read_name))


def read_query(words):
    """Return the query that the words of a line say, or None."""
    return read_words(words, (read_number, read_name, read_number))


def read_lines(text, readers):
    """Return the list of pairs (keyword, what the other words of the line say) for the lines of a text.

    The readers are a dict from keywords, in the order in which their lines may stand, to functions that
    return None if they do not accept the words. BadText tells the first line that is not accepted.
    """
    if not isinstance(text, str):
        raise BadText(0)
    *lines, rest = text.split("\n")
    keywords = list(readers)
    pairs = []
    for row, line in enumerate(lines):
        keyword, *words = line.split(" ")
        if keyword not in keywords:
            raise BadText(row)
        read = readers[keyword]
        said = read(words)
        if said is None:
            raise BadText(row)
        pairs.append((keyword, said))
        keywords = keywords[keywords.index(keyword):]
    if rest:
        raise BadText(len(lines))
    return pairs


def read_network(text):
    """Return the network that a text says."""
    pairs = read_lines(text, {"source": read_source, "view": read_view})
    sources = {said[0]: said[1] for keyword, said in pairs if keyword == "source"}
    views = {said[0]: said[1] for keyword, said in pairs if keyword == "view"}
    # In a dict, a name that is used twice would stand only once.
    if len(sources) + len(views) < len(pairs):
        raise BadText(0)
    try:
        return Network(sources, views)
    except BadNetwork:
        raise BadText(0) from None


def read_plan(network, horizon, text):
    """Return the plan that a text says."""
    check_network(network)
    check_horizon(horizon)
    plan = [said for keyword, said in read_lines(text, {"refresh": read_refresh})]
    if not is_plan(network, horizon, plan):
        raise BadText(0)
    return plan


def read_queries(network, horizon, text):
    """Return the list of queries that a text says."""
    check_network(network)
    check_horizon(horizon)
    queries = [said for keyword, said in read_lines(text, {"query": read_query})]
    if not are_queries(network, horizon, queries):
        raise BadText(0)
    return queries
