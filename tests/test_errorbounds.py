"""Points [6] to [8], and the functions of fewrefresh.errorbounds."""

import inspect
import random
import unittest

from fewrefresh import errorbounds
from fewrefresh.errorbounds import ages, are_bounds, example, least_bounds, worst
from fewrefresh.errors import BadNetwork, BadNumber, BadPlan, BadQuery
from fewrefresh.networks import Network
from fewrefresh.worlds import answers, is_world
from tests.cases import (NOT_HORIZONS, NOT_NETWORKS, all_refreshes, deep, small, some_case, some_query, wrong_plans,
                         wrong_queries)
from tests.helpers import Refusals, frozen
from tests.reference import reference_ages, reference_error, reference_worst


def nested():
    """Return a network with negative factors, least and greatest values within each other."""
    return Network({"a": (2, 1), "b": (0, 1), "c": (3, 1), "d": (7, 1)},
                   {"m": (("min", ("b", "a")), 1), "s": (("sum", ((-3, "m"), (2, "c"))), 1),
                    "x": (("max", ("d", "s")), 1), "t": (("sum", ((-5, "x"),)), 1)})


def cases(seed, many):
    """Return quadruples of a network, a horizon, a plan and a query."""
    chance = random.Random(seed)
    found = []
    for at in range(many):
        network, horizon, world, plan = some_case(chance)
        found.append((network, horizon, plan, some_query(chance, network, horizon)))
    return found


class Ages(unittest.TestCase, Refusals):
    def test_without_refreshes(self):
        for tick in (0, 1, 4):
            self.assertEqual(ages(small(), 4, [], (tick, "b", 0)), {"b": tick})
            self.assertEqual(ages(small(), 4, [], (tick, "s", 0)), {"b": tick, "a": tick})

    def test_refreshes_of_a_source(self):
        plan = [(2, "b"), (4, "b")]
        found = [ages(small(), 5, plan, (tick, "b", 0)) for tick in range(6)]
        self.assertEqual(found, [{"b": age} for age in (0, 1, 0, 1, 0, 1)])

    def test_a_view_takes_stamps_when_it_is_refreshed(self):
        plan = [(1, "b"), (3, "b"), (3, "s"), (4, "a"), (5, "b")]
        found = [ages(small(), 6, plan, (tick, "s", 0)) for tick in range(7)]
        self.assertEqual(found, [{"b": 0, "a": 0}, {"b": 1, "a": 1}, {"b": 2, "a": 2}, {"b": 0, "a": 3},
                                 {"b": 1, "a": 4}, {"b": 2, "a": 5}, {"b": 3, "a": 6}])

    def test_stale_views_below(self):
        plan = [(2, "c"), (3, "m"), (4, "a"), (4, "b"), (5, "x"), (6, "t")]
        for tick, expected in ((5, {"c": 5, "a": 5, "b": 5}), (6, {"c": 4, "a": 2, "b": 6})):
            self.assertEqual(ages(deep(), 6, plan, (tick, "t", 0)), expected)
        self.assertEqual(ages(deep(), 6, plan, (6, "m", 0)), {"c": 4, "b": 6})
        self.assertEqual(ages(deep(), 6, plan, (6, "b", 0)), {"b": 2})

    def test_everything_is_fresh_if_everything_is_refreshed(self):
        for tick in range(13):
            self.assertEqual(ages(deep(), 12, all_refreshes(deep(), 12), (tick, "t", 0)), {"c": 0, "a": 0, "b": 0})

    def test_order(self):
        self.assertEqual(list(ages(deep(), 2, [], (1, "t", 0))), ["c", "a", "b"])
        self.assertEqual(list(ages(deep(), 2, [], (1, "m", 0))), ["c", "b"])

    def test_later_refreshes_do_not_count(self):
        self.assertEqual(ages(small(), 4, [(2, "b"), (2, "s")], (1, "s", 0)), {"b": 1, "a": 1})

    def test_against_reference(self):
        for network, horizon, plan, query in cases(11, 300):
            self.assertEqual(frozen(ages(network, horizon, plan, query)),
                             frozen(reference_ages(network, plan, query)))


class Worst(unittest.TestCase, Refusals):
    def test_source(self):
        for drift in (0, 1, 20):
            network = Network({"a": (drift, 1)}, {})
            self.assertEqual([worst(network, 12, [], (tick, "a", 0)) for tick in range(13)],
                             [drift * tick for tick in range(13)])
            self.assertEqual([worst(network, 12, [(5, "a")], (tick, "a", 0)) for tick in (4, 5, 6, 12)],
                             [drift * age for age in (4, 0, 1, 7)])

    def test_sum(self):
        network = Network({"a": (2, 1), "b": (3, 1)}, {"s": (("sum", ((-5, "a"), (4, "b"))), 1)})
        self.assertEqual(worst(network, 3, [], (1, "s", 0)), 22)
        self.assertEqual(worst(network, 3, [(2, "a"), (2, "s")], (3, "s", 0)), 46)

    def test_least_and_greatest(self):
        for kind in ("min", "max"):
            network = Network({"a": (2, 1), "b": (3, 1)}, {"m": ((kind, ("a", "b")), 1)})
            self.assertEqual([worst(network, 3, plan, (3, "m", 0))
                              for plan in ([], [(3, "b")], [(3, "b"), (3, "m")], [(1, "b"), (1, "m")])], [9, 9, 6, 6])

    def test_nested(self):
        self.assertEqual([worst(nested(), 2, [], (1, name, 0)) for name in nested().names()],
                         [2, 0, 3, 7, 2, 12, 12, 60])
        plan = [(1, "c"), (1, "s"), (1, "x"), (1, "t")]
        self.assertEqual(worst(nested(), 2, plan, (1, "t", 0)), 35)
        self.assertEqual(worst(nested(), 2, plan, (2, "t", 0)), 90)

    def test_the_tolerance_does_not_count(self):
        for tolerance in (0, 1, 999):
            self.assertEqual(worst(small(), 2, [], (2, "s", tolerance)), 4)

    def test_against_reference(self):
        for network, horizon, plan, query in cases(12, 300):
            found = worst(network, horizon, random.choice((list, tuple))(plan), query)
            self.assertEqual(found, reference_error(network, plan, query))

    def test_no_world_is_worse(self):
        chance = random.Random(13)
        for at in range(200):
            network, horizon, world, plan = some_case(chance)
            for name, (drift, cost) in network.sources().items():
                course = [chance.randint(-30, 30)]
                for tick in range(horizon):
                    course.append(course[-1] + chance.choice((-drift, drift)))
                world[name] = course
            query = some_query(chance, network, horizon)
            self.assertLessEqual(answers(network, horizon, world, plan, [query])[0][1],
                                 worst(network, horizon, plan, query))

    def test_fewer_refreshes_make_no_error_smaller(self):
        chance = random.Random(14)
        for network, horizon, plan, query in cases(14, 100):
            fewer = [refresh for refresh in plan if chance.random() < 0.7]
            self.assertGreaterEqual(worst(network, horizon, fewer, query), worst(network, horizon, plan, query))


class Example(unittest.TestCase, Refusals):
    def reach(self, network, horizon, plan, query):
        world = example(network, horizon, plan, query)
        self.assertIs(is_world(network, horizon, world), True)
        self.assertEqual(list(world), list(network.sources()))
        expected = reference_error(network, plan, query)
        self.assertEqual(answers(network, horizon, world, plan, [query])[0][1], expected)

    def test_sources(self):
        for drift in (0, 1, 20):
            network = Network({"a": (drift, 1), "b": (1, 1)}, {})
            for tick in range(13):
                for plan in ([], [(5, "a")], [(5, "a"), (6, "a"), (12, "a")], [(5, "b")]):
                    self.reach(network, 12, plan, (tick, "a", 0))

    def test_sums(self):
        for first in (-5, -2, 1, 3):
            for second in (-4, -1, 5):
                network = Network({"a": (2, 1), "b": (3, 1)}, {"s": (("sum", ((first, "a"), (second, "b"))), 1)})
                for plan in ([], [(1, "a"), (2, "s")], all_refreshes(network, 3)):
                    self.reach(network, 3, plan, (3, "s", 0))

    def test_least_and_greatest(self):
        for outer in ("min", "max", "sum"):
            for inner in ("min", "max", "sum"):
                for factor in (-5, -1, 3):
                    parts = {"sum": ((factor, "v"), (1, "d"))}.get(outer, ("v", "d"))
                    lower = {"sum": ((2, "a"), (factor, "b"), (-1, "c"))}.get(inner, ("a", "b", "c"))
                    for drifts in ((1, 2, 3, 4), (3, 3, 3, 3), (20, 0, 0, 1), (0, 0, 5, 20)):
                        sources = {name: (drift, 1) for name, drift in zip("abcd", drifts)}
                        network = Network(sources, {"v": ((inner, lower), 1), "w": ((outer, parts), 1)})
                        for plan in ([], [(1, "c"), (2, "v"), (2, "w")], [(2, "a"), (3, "v")]):
                            self.reach(network, 4, plan, (4, "w", 0))

    def test_nested(self):
        for name in nested().names():
            for tick in range(4):
                for plan in ([], [(1, "a"), (1, "m"), (2, "d"), (2, "s"), (3, "x"), (3, "t")],
                             [(1, "c"), (1, "s"), (1, "x"), (1, "t")]):
                    self.reach(nested(), 3, plan, (tick, name, 0))

    def test_deepest(self):
        for kinds in (("sum",) * 7, ("max", "sum") * 4, ("min", "max", "sum", "sum") * 2):
            views = {}
            for at, (lower, name) in enumerate(zip("abcdefg", "bcdefgh")):
                views[name] = ((kinds[at], ((-5, lower),) if kinds[at] == "sum" else (lower,)), 1)
            network = Network({"a": (20, 1)}, views)
            self.reach(network, 12, [], (12, "h", 0))
            self.reach(network, 12, [(3, "a"), (7, "b"), (7, "c")], (12, "h", 999))

    def test_wide_trees(self):
        for outer in ("min", "max"):
            for inner in ("min", "max"):
                network = Network({name: (drift, 1) for name, drift in zip("abcde", (3, 0, 20, 1, 7))},
                                  {"s": (("sum", ((5, "a"), (-4, "b"))), 1), "m": ((inner, ("s", "c")), 1),
                                   "x": ((outer, ("d", "m", "e")), 1)})
                for plan in ([], [(2, "c"), (2, "m"), (2, "x")], [(2, "a"), (2, "c"), (2, "s"), (2, "m"), (2, "x")]):
                    self.reach(network, 4, plan, (3, "x", 0))
                    self.reach(network, 4, plan, (4, "x", 0))

    def test_small_errors_beside_large_factors(self):
        for outer in ("min", "max"):
            for inner in ("min", "max"):
                for factors in ((5, 4), (-5, 3), (4, -5), (-3, -4), (-1, 2)):
                    for drifts in ((1, 0, 0), (1, 1, 0), (2, 0, 1)):
                        network = Network({name: (drift, 1) for name, drift in zip("abc", drifts)},
                                          {"s": (("sum", ((factors[0], "b"),)), 1), "m": ((inner, ("s",)), 1),
                                           "r": (("sum", ((factors[1], "m"), (1, "c"))), 1),
                                           "x": ((outer, ("r", "a")), 1), "t": (("sum", ((factors[0], "x"),)), 1)})
                        for name in ("x", "t"):
                            self.reach(network, 1, [], (1, name, 0))

    def test_many(self):
        for network, horizon, plan, query in cases(15, 500):
            self.reach(network, horizon, plan, query)

    def test_all_views(self):
        chance = random.Random(16)
        for at in range(150):
            network, horizon, world, plan = some_case(chance)
            for name in network.views():
                self.reach(network, horizon, plan, (chance.randint(0, horizon), name, 0))


class LeastBounds(unittest.TestCase, Refusals):
    def test_values_and_order(self):
        plan = [(1, "c"), (1, "s"), (1, "x"), (1, "t")]
        self.assertEqual(frozen(least_bounds(nested(), 2, plan, (1, "t", 0))),
                         frozen({"a": 2, "b": 0, "c": 0, "d": 7, "m": 2, "s": 6, "x": 7, "t": 35}))
        self.assertEqual(frozen(least_bounds(deep(), 2, [], (1, "m", 0))), frozen({"c": 5, "b": 3, "m": 5}))
        self.assertEqual(frozen(least_bounds(deep(), 2, [], (2, "a", 0))), frozen({"a": 40}))

    def test_ages_are_those_for_the_query(self):
        self.assertEqual(least_bounds(small(), 2, [(2, "b")], (2, "s", 0)), {"b": 4, "a": 0, "s": 4})

    def test_against_reference(self):
        for network, horizon, plan, query in cases(17, 200):
            lags = reference_ages(network, plan, query)
            expected = {name: reference_worst(network, lags, name) for name in network.names()
                        if name == query[1] or name in network.below(query[1])}
            self.assertEqual(frozen(least_bounds(network, horizon, plan, query)), frozen(expected))


class AreBounds(unittest.TestCase, Refusals):
    plan = [(1, "c"), (1, "s"), (1, "x"), (1, "t")]
    least = {"a": 2, "b": 0, "c": 0, "d": 7, "m": 2, "s": 6, "x": 7, "t": 35}

    def told(self, bounds, tolerance=35):
        return are_bounds(nested(), 2, self.plan, (1, "t", tolerance), bounds)

    def test_least(self):
        self.assertIs(self.told(self.least), True)
        self.assertIs(self.told(self.least, 36), True)
        self.assertIs(self.told(self.least, 34), False)

    def test_any_order(self):
        self.assertIs(self.told(dict(reversed(list(self.least.items())))), True)

    def test_one_less(self):
        for name in self.least:
            with self.subTest(name=name):
                self.assertIs(self.told({**self.least, name: self.least[name] - 1}, 999), False)

    def test_one_more(self):
        # What is one more here is still enough for the bounds of the views above it, or not any longer.
        expected = {"a": False, "b": True, "c": False, "d": False, "m": False, "s": True, "x": False, "t": True}
        for name, told in expected.items():
            with self.subTest(name=name):
                self.assertIs(self.told({**self.least, name: self.least[name] + 1}, 999), told)

    def test_more_throughout(self):
        more = {"a": 3, "b": 3, "c": 1, "d": 7, "m": 3, "s": 11, "x": 11, "t": 55}
        self.assertIs(self.told(more, 55), True)
        self.assertIs(self.told(more, 54), False)
        for name in ("m", "s", "x", "t"):
            self.assertIs(self.told({**more, name: more[name] - 1}, 55), False)

    def test_missing_and_further_nodes(self):
        for name in self.least:
            fewer = {node: bound for node, bound in self.least.items() if node != name}
            self.assertIs(self.told(fewer), False)
            self.assertIs(self.told({**fewer, "q": 0}), False)
            self.assertIs(self.told({**fewer, name + name: 0}), False)
        self.assertIs(self.told({**self.least, "q": 0}), False)
        self.assertIs(self.told({}), False)

    def test_booleans_are_not_integers(self):
        self.assertIs(are_bounds(nested(), 2, [], (0, "m", 2), {"a": 0, "b": False, "m": 1}), False)
        self.assertIs(are_bounds(nested(), 2, [], (0, "m", 2), {"a": 0, "b": 0, "m": True}), False)

    def test_only_nodes_below(self):
        self.assertIs(are_bounds(nested(), 2, [], (1, "m", 2), {"a": 2, "b": 0, "m": 2}), True)
        self.assertIs(are_bounds(nested(), 2, [], (1, "m", 2), {"a": 2, "b": 0, "c": 3, "m": 2}), False)
        self.assertIs(are_bounds(nested(), 2, [], (1, "m", 2), {"m": 2}), False)
        self.assertIs(are_bounds(nested(), 2, [], (1, "a", 2), {"a": 2}), True)
        self.assertIs(are_bounds(nested(), 2, [], (1, "a", 2), {"a": 1}), False)
        self.assertIs(are_bounds(nested(), 2, [], (1, "a", 2), {"a": 3}), False)

    def test_tick_0_and_the_horizon(self):
        self.assertIs(are_bounds(small(), 2, [], (0, "s", 0), {"b": 0, "a": 0, "s": 0}), True)
        self.assertIs(are_bounds(small(), 2, [], (0, "s", 0), {"b": -1, "a": 0, "s": 0}), False)
        self.assertIs(are_bounds(small(), 2, [], (0, "s", 0), {"b": 0, "a": 0, "s": -1}), False)
        self.assertIs(are_bounds(small(), 2, [], (2, "s", 4), {"b": 4, "a": 0, "s": 4}), True)
        self.assertIs(are_bounds(small(), 2, [], (2, "s", 3), {"b": 4, "a": 0, "s": 4}), False)

    def test_exactly_if_the_query_is_within_its_tolerance(self):
        for network, horizon, plan, query in cases(18, 200):
            bounds = least_bounds(network, horizon, plan, query)
            error = bounds[query[1]]
            for tolerance in (error - 1, error, error + 1):
                if 0 <= tolerance <= 999:
                    told = are_bounds(network, horizon, plan, (query[0], query[1], tolerance), bounds)
                    self.assertIs(told, tolerance >= error)


class Conventions(unittest.TestCase, Refusals):
    calls = ((ages, ()), (worst, ()), (example, ()), (least_bounds, ()), (are_bounds, ({"b": 4, "a": 0, "s": 4},)))

    def test_refusals(self):
        wrong = [(0, BadNetwork, NOT_NETWORKS), (1, BadNumber, NOT_HORIZONS), (2, BadPlan, wrong_plans()),
                 (3, BadQuery, wrong_queries())]
        for call, more in self.calls:
            self.refuse_in_order(call, (small(), 2, [(1, "b")], (2, "s", 0)) + more, wrong)
            self.assertIsNone(self.refuse(BadNetwork, call, None, 2, [], (2, "s", 0), *more).part)

    def test_limits(self):
        for call, more in self.calls:
            for horizon in (1, 12):
                for tick in (0, horizon):
                    for tolerance in (0, 999):
                        call(small(), horizon, [(1, "b"), (horizon, "s")], (tick, "s", tolerance), *more)
                for query in ((-1, "s", 0), (horizon + 1, "s", 0), (0, "s", -1), (0, "s", 1000)):
                    self.refuse(BadQuery, call, small(), horizon, [], query, *more)
                self.refuse(BadPlan, call, small(), horizon, [(horizon + 1, "s")], (0, "s", 0), *more)

    def test_arguments_are_left(self):
        for call, more in self.calls:
            for plan in ([(1, "b"), (2, "s")], ((1, "b"), (2, "s")), [], ()):
                self.leaves_arguments(call, small(), 2, plan, (2, "s", 4), *more)

    def test_later_changes_of_arguments_do_not_count(self):
        plan = [(1, "b"), (1, "s")]
        found = [call(small(), 2, plan, (2, "s", 4)) for call in (ages, example, least_bounds)]
        before = frozen(found)
        plan.clear()
        self.assertEqual(frozen(found), before)

    def test_names_of_arguments(self):
        for call, more in self.calls:
            expected = ["network", "horizon", "plan", "query"] + ["bounds"] * len(more)
            self.assertEqual(list(inspect.signature(call).parameters), expected)
            self.assertEqual(call.__module__, "fewrefresh.errorbounds")
            self.assertIs(getattr(errorbounds, call.__name__), call)

    def test_largest(self):
        network = Network({name: (20, 9) for name in "abcd"},
                          {"s": (("sum", ((-5, "a"), (5, "b"))), 9), "m": (("min", ("c", "d")), 9),
                           "x": (("max", ("s", "m")), 9), "t": (("sum", ((-5, "x"),)), 9)})
        for plan in ([], all_refreshes(network, 12), all_refreshes(network, 11)[::2]):
            for tick in range(13):
                query = (tick, "t", 999)
                world = example(network, 12, plan, query)
                error = worst(network, 12, plan, query)
                self.assertEqual(answers(network, 12, world, plan, [query])[0][1], error)
                self.assertIs(are_bounds(network, 12, plan, query, least_bounds(network, 12, plan, query)),
                              error <= 999)
