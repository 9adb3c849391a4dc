"""Networks, worlds, plans and queries, right and wrong ones, for the tests of several files."""

from fewrefresh.networks import Network
from tests.helpers import NOT_TEXT, NOT_WHOLE, STRANGERS
from tests.reference import reference_error

NOT_NETWORKS = STRANGERS + (True, 1, [], {}, {"a": (1, 1)}, ({"a": (1, 1)}, {}), Network)
NOT_HORIZONS = NOT_WHOLE + (0, -1, 13, 10 ** 30)
NOT_NODES = NOT_TEXT + ("", "q", "A", "aa", "a ")

# For small().
RECORDS = {"b": (3, 7), "a": (0, -2)}
SITUATION = {"b": (5, 9), "a": (-2, -2)}


def small():
    """Return a network whose order is not that of the alphabet."""
    return Network({"b": (2, 1), "a": (0, 3)}, {"s": (("sum", ((1, "b"), (-3, "a"))), 2)})


def deep():
    """Return a network with views over views."""
    return Network({"c": (5, 1), "a": (20, 9), "b": (3, 2)},
                   {"m": (("min", ("b", "c")), 3), "x": (("max", ("m", "a")), 1), "t": (("sum", ((-2, "x"),)), 4)})


def still(network, horizon, worth=0):
    """Return a world in which nothing changes."""
    return {name: [worth] * (horizon + 1) for name in network.sources()}


def wrong_worlds():
    """Return things that are not worlds for small() and the horizon 2."""
    good = {"b": [0, 1, 2], "a": [5, 5, 5]}
    wrong = list(STRANGERS) + [True, 0, 1, [], {}, [good], (good,), list(good.items()), "ba", {"b": [0, 1, 2]},
                               {**good, "s": [0, 0, 0]}, {**good, "q": [0, 0, 0]}, {**good, True: [0, 0, 0]},
                               {"b": [0, 1, 2], True: [5, 5, 5]}, {"b": [0, 1, 2], "A": [5, 5, 5]},
                               {"b": [0, 1, 2], b"a": [5, 5, 5]}]
    for course in list(STRANGERS) + [True, 5, [], (5, 5, 5), [5, 5], [5, 5, 5, 5], [5, 5, 6], [5, 4, 5], [5, 5, "5"],
                                     [5, None, 5], [[5], [5], [5]], {0: 5, 1: 5, 2: 5}, [True, True, True],
                                     [1, True, 1], [False, 0, 0], "555"]:
        wrong.append({"b": [0, 1, 2], "a": course})
    for course in ([0, 3, 2], [0, -3, 0], [3, 0, 0], [0, 0, 3], [-1, 1, 4], [10 ** 30, 10 ** 30 + 3, 10 ** 30]):
        wrong.append({"b": course, "a": [5, 5, 5]})
    return wrong


def wrong_plans():
    """Return things that are not plans for small() and the horizon 2."""
    wrong = list(STRANGERS) + [True, 0, 1, {}, {(1, "b"): 1}, "1b", (1, "b"), [1, "b"], (True,), [None]]
    for refresh in list(STRANGERS) + [True, 1, [1, "b"], (1,), (1, "b", 1), ("b", 1), {1: "b"}, (0, "b"), (-1, "b"),
                                      (3, "b"), (13, "b")]:
        wrong.append([refresh])
        wrong.append([(1, "b"), refresh])
    wrong.extend([[(tick, "b")] for tick in NOT_WHOLE])
    wrong.extend([[(1, name)] for name in NOT_NODES])
    wrong.extend([[(1, "b"), (1, "b")], [(2, "b"), (1, "b")], [(1, "a"), (1, "b")], [(1, "s"), (1, "a")],
                  [(2, "b"), (1, "s")], [(1, "b"), (2, "b"), (2, "b")], [(1, "b"), (2, "b"), (1, "a")],
                  [(1, "b"), (2, "b"), (1, "b")]])
    return wrong + [tuple(plan) for plan in wrong if isinstance(plan, list)]


def wrong_queries():
    """Return things that are not queries for small() and the horizon 2."""
    wrong = list(STRANGERS) + [True, 0, [0, "b", 0], (), (0,), (0, "b"), (0, "b", 0, 0), {0: 0, 1: "b", 2: 0},
                               (-1, "b", 0), (3, "b", 0), (0, "b", -1), (0, "b", 1000), (0, 0, "b"), ("b", 0, 0)]
    wrong.extend([(tick, "b", 0) for tick in NOT_WHOLE])
    wrong.extend([(0, name, 0) for name in NOT_NODES])
    wrong.extend([(0, "b", tolerance) for tolerance in NOT_WHOLE])
    return wrong


def wrong_query_lists():
    """Return things that are not lists of queries for small() and the horizon 2."""
    wrong = list(STRANGERS) + [True, 0, {}, {(0, "b", 0): 1}, (0, "b", 0), [0, "b", 0], [], (), [(0, "b", 0)] * 21,
                               ((0, "b", 0),) * 21]
    for query in wrong_queries():
        wrong.extend([[query], (query,), [(0, "b", 0), query], [query, (0, "b", 0)]])
    return wrong


def wrong_dicts(good):
    """Return things that are not dicts from the sources of small()."""
    wrong = list(STRANGERS) + [True, 0, 1, [], (), {}, list(good), list(good.items()), tuple(good.items()), "ba"]
    for name in good:
        fewer = {other: pair for other, pair in good.items() if other != name}
        wrong.extend([fewer, {**fewer, "q": good[name]}, {**fewer, "s": good[name]}, {**fewer, True: good[name]},
                      {**fewer, None: good[name]}, {**fewer, name.encode(): good[name]},
                      {**fewer, name.upper(): good[name]}])
    return wrong + [{**good, other: (0, 0)} for other in ("s", "q", "", 0, None)]


def wrong_pairs():
    """Return things that are not pairs of integers."""
    wrong = list(STRANGERS) + [True, 1, [0, 0], {0: 0, 1: 0}, (), (0,), (0, 0, 0), "00", ((0, 0),)]
    for thing in NOT_WHOLE:
        wrong.extend([(thing, 0), (0, thing)])
    return wrong


def wrong_records():
    """Return things that are not records for small()."""
    wrong = wrong_dicts(RECORDS)
    pairs = wrong_pairs() + [(-1, 0), (100, 0), (10 ** 30, 0), (0, 10000), (0, -10000), (0, 10 ** 30)]
    return wrong + [{**RECORDS, name: pair} for name in RECORDS for pair in pairs]


def wrong_situations():
    """Return things that are not situations for small()."""
    wrong = wrong_dicts(SITUATION)
    pairs = wrong_pairs() + [(1, 0), (0, -1), (-99998, -99999), (99999, 99998), (-100000, 0), (0, 100000),
                             (100000, 100000), (-100000, -100000), (99999, 100000), (-10 ** 30, 10 ** 30)]
    return wrong + [{**SITUATION, name: pair} for name in SITUATION for pair in pairs]


def some_formula(chance, free):
    """Return a formula over some free nodes, which it removes from the list."""
    names = [free.pop(chance.randrange(len(free))) for at in range(chance.randint(1, min(4, len(free))))]
    kind = chance.choice(("sum", "min", "max"))
    if kind == "sum":
        return kind, tuple((chance.choice((-5, -2, -1, 1, 3, 5)), name) for name in names)
    return kind, tuple(names)


def some_case(chance):
    """Return a network, a horizon, a world and a plan."""
    letters = chance.sample("abcdefgh", chance.randint(1, 8))
    many = chance.randint(1, len(letters))
    sources = {name: (chance.randint(0, 20), chance.randint(1, 9)) for name in letters[:many]}
    free, views = list(sources), {}
    for name in letters[many:]:
        views[name] = (some_formula(chance, free), chance.randint(1, 9))
        free.append(name)
    network, horizon = Network(sources, views), chance.randint(1, 12)
    world = {}
    for name in chance.sample(list(sources), many):
        world[name] = [chance.randint(-50, 50)]
        for tick in range(horizon):
            world[name].append(world[name][-1] + chance.randint(-sources[name][0], sources[name][0]))
    plan = [(tick, name) for tick in range(1, horizon + 1) for name in letters if chance.random() < 0.3]
    return network, horizon, world, plan


def some_query(chance, network, horizon, most=999):
    """Return a query."""
    return chance.randint(0, horizon), chance.choice(network.names()), chance.randint(0, most)


def all_refreshes(network, horizon):
    """Return the plan that refreshes everything at every tick."""
    return [(tick, name) for tick in range(1, horizon + 1) for name in network.names()]


def some_sufficient(chance, most=4):
    """Return a network, a horizon, a plan and queries for which it is sufficient, some of them only just."""
    network, horizon, world, plan = some_case(chance)
    queries = []
    for at in range(200):
        tick, name, tolerance = some_query(chance, network, horizon)
        error = reference_error(network, plan, (tick, name))
        if error <= 999 and len(queries) < most:
            queries.append((tick, name, min(999, error + chance.choice((0, 0, 1, 5, 40)))))
    return network, horizon, plan, queries
