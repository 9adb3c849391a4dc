"""Points [1] and [3] to [5], and the functions of fewrefresh.worlds."""

import inspect
import random
import unittest

from fewrefresh import worlds
from fewrefresh.errors import BadNetwork, BadNumber, BadPlan, BadQuery, BadWorld
from fewrefresh.networks import Network
from fewrefresh.worlds import answers, caches, is_world, value
from tests.cases import (NOT_HORIZONS, NOT_NETWORKS, NOT_NODES, deep, small, some_case, some_query, still,
                         wrong_plans, wrong_query_lists, wrong_worlds)
from tests.helpers import NOT_WHOLE, Refusals, containers, frozen
from tests.reference import reference_cache, reference_value


class IsWorld(unittest.TestCase, Refusals):
    def test_worlds(self):
        for world in ({"b": [0, 1, 2], "a": [5, 5, 5]}, {"b": [0, 2, 0], "a": [-5, -5, -5]},
                      {"b": [0, -2, -4], "a": [0, 0, 0]}, {"b": [0, 0, 0], "a": [10 ** 30] * 3},
                      {"b": [-10 ** 30, 2 - 10 ** 30, -10 ** 30], "a": [0, 0, 0]}):
            self.assertIs(is_world(small(), 2, world), True)

    def test_any_order(self):
        self.assertIs(is_world(small(), 2, {"a": [5, 5, 5], "b": [0, 1, 2]}), True)

    def test_horizons(self):
        for horizon in range(1, 13):
            self.assertIs(is_world(small(), horizon, still(small(), horizon)), True)
            self.assertIs(is_world(small(), horizon, still(small(), horizon - 1)), False)
            self.assertIs(is_world(small(), horizon, still(small(), horizon + 1)), False)

    def test_drifts(self):
        for drift in (0, 1, 20):
            network = Network({"a": (drift, 1)}, {})
            for step in (-drift, drift, 0):
                self.assertIs(is_world(network, 1, {"a": [7, 7 + step]}), True)
            for step in (-drift - 1, drift + 1):
                self.assertIs(is_world(network, 1, {"a": [7, 7 + step]}), False)
                self.assertIs(is_world(network, 12, {"a": [7] * 12 + [7 + step]}), False)

    def test_not_worlds(self):
        for thing in wrong_worlds():
            with self.subTest(thing=thing):
                self.assertIs(is_world(small(), 2, thing), False)

    def test_refuses(self):
        for thing in NOT_NETWORKS:
            self.assertIsNone(self.refuse(BadNetwork, is_world, thing, 2, {}).part)
            self.assertIsNone(self.refuse(BadNetwork, is_world, thing, None, {}).part)
        for horizon in NOT_HORIZONS:
            self.refuse(BadNumber, is_world, small(), horizon, None)


class Value(unittest.TestCase, Refusals):
    world = {"b": [0, 1, 3], "a": [5, 5, 5]}

    def test_values(self):
        found = [[value(small(), 2, self.world, name, tick) for tick in range(3)] for name in ("b", "a", "s")]
        self.assertEqual(found, [[0, 1, 3], [5, 5, 5], [-15, -14, -12]])

    def test_least_and_greatest(self):
        world = {"b": [4, 1], "a": [3, 0], "c": [2, 2]}
        found = [[value(deep(), 1, world, name, tick) for name in "cabmxt"] for tick in (0, 1)]
        self.assertEqual(found, [[2, 3, 4, 2, 3, -6], [2, 0, 1, 1, 1, -2]])

    def test_limits(self):
        for factor in (-5, 5):
            network = Network({"a": (20, 1)}, {"s": (("sum", ((factor, "a"),)), 1)})
            self.assertEqual(value(network, 12, {"a": list(range(0, 260, 20))}, "s", 12), factor * 240)

    def test_order_of_the_world(self):
        self.assertEqual(value(small(), 2, {"a": [5, 5, 5], "b": [0, 1, 3]}, "s", 2), -12)

    def test_against_reference(self):
        chance = random.Random(1)
        for at in range(100):
            network, horizon, world, plan = some_case(chance)
            for name in network.names():
                tick = chance.randint(0, horizon)
                self.assertEqual(value(network, horizon, world, name, tick),
                                 reference_value(network, world, name, tick))

    def test_refuses_world(self):
        for thing in wrong_worlds():
            self.refuse(BadWorld, value, small(), 2, thing, "b", 0)
            self.refuse(BadWorld, value, small(), 2, thing, None, None)

    def test_refuses_name(self):
        for name in NOT_NODES:
            self.refuse(BadQuery, value, small(), 2, self.world, name, 0)
            self.refuse(BadQuery, value, small(), 2, self.world, name, -1)

    def test_refuses_tick(self):
        for tick in NOT_WHOLE + (-1, 3, 10 ** 30):
            self.refuse(BadNumber, value, small(), 2, self.world, "b", tick)

    def test_horizon_comes_before_world(self):
        for horizon in NOT_HORIZONS:
            self.refuse(BadNumber, value, small(), horizon, None, None, None)
        for thing in NOT_NETWORKS:
            self.assertIsNone(self.refuse(BadNetwork, value, thing, None, None, None, None).part)


class Caches(unittest.TestCase, Refusals):
    world = {"b": [0, 1, 3], "a": [5, 5, 5]}

    def test_without_refreshes(self):
        for plan in ([], ()):
            self.assertEqual(caches(small(), 2, self.world, plan), [{"b": 0, "a": 5, "s": -15}] * 3)

    def test_view_reads_caches_not_values(self):
        found = caches(small(), 2, self.world, [(1, "s"), (2, "b"), (2, "s")])
        self.assertEqual([row["s"] for row in found], [-15, -15, -12])
        found = caches(small(), 2, self.world, [(1, "b"), (2, "s")])
        self.assertEqual(found, [{"b": 0, "a": 5, "s": -15}, {"b": 1, "a": 5, "s": -15}, {"b": 1, "a": 5, "s": -14}])

    def test_order_within_a_tick(self):
        world = {"c": [9, 4], "a": [0, 0], "b": [9, 7]}
        found = caches(deep(), 1, world, [(1, "c"), (1, "m"), (1, "x"), (1, "t")])
        self.assertEqual(found[1], {"c": 4, "a": 0, "b": 9, "m": 4, "x": 4, "t": -8})
        found = caches(deep(), 1, world, [(1, "b"), (1, "x"), (1, "t")])
        self.assertEqual(found[1], {"c": 9, "a": 0, "b": 7, "m": 9, "x": 9, "t": -18})

    def test_order_of_dicts(self):
        for world in (self.world, {"a": [5, 5, 5], "b": [0, 1, 3]}):
            found = caches(small(), 2, world, [(1, "b"), (2, "a"), (2, "s")])
            self.assertEqual([list(row) for row in found], [["b", "a", "s"]] * 3)

    def test_limits(self):
        network = Network({"a": (20, 9)}, {})
        world = {"a": list(range(0, 260, 20))}
        self.assertEqual(caches(network, 1, {"a": [0, 20]}, [(1, "a")]), [{"a": 0}, {"a": 20}])
        self.assertEqual([row["a"] for row in caches(network, 12, world, [(12, "a")])], [0] * 12 + [240])
        self.assertEqual(caches(network, 12, world, tuple((tick, "a") for tick in range(1, 13))),
                         [{"a": worth} for worth in world["a"]])

    def test_against_reference(self):
        chance = random.Random(2)
        for at in range(100):
            network, horizon, world, plan = some_case(chance)
            found = caches(network, horizon, world, chance.choice((list, tuple))(plan))
            expected = [{name: reference_cache(network, world, plan, name, tick) for name in network.names()}
                        for tick in range(horizon + 1)]
            self.assertEqual(frozen(found), frozen(expected))

    def test_refuses_plan(self):
        for plan in wrong_plans():
            with self.subTest(plan=plan):
                self.refuse(BadPlan, caches, small(), 2, self.world, plan)

    def test_ticks_of_refreshes(self):
        for horizon in (1, 2, 12):
            world = still(small(), horizon)
            self.assertEqual(len(caches(small(), horizon, world, [(horizon, "b")])), horizon + 1)
            self.refuse(BadPlan, caches, small(), horizon, world, [(horizon + 1, "b")])
            self.refuse(BadPlan, caches, small(), horizon, world, [(0, "b")])

    def test_order_of_errors(self):
        for thing in NOT_NETWORKS:
            self.assertIsNone(self.refuse(BadNetwork, caches, thing, None, None, None).part)
        for horizon in NOT_HORIZONS:
            self.refuse(BadNumber, caches, small(), horizon, None, None)
        for thing in wrong_worlds():
            self.refuse(BadWorld, caches, small(), 2, thing, None)


class Answers(unittest.TestCase, Refusals):
    world = {"b": [0, 1, 3], "a": [5, 5, 5]}
    plan = [(1, "b"), (2, "s")]

    def test_answers_and_errors(self):
        queries = [(0, "b", 0), (1, "b", 0), (2, "b", 0), (1, "s", 0), (2, "s", 0), (2, "a", 999), (2, "b", 0)]
        expected = [(0, 0), (1, 0), (1, 2), (-15, 1), (-14, 2), (5, 0), (1, 2)]
        self.assertEqual(answers(small(), 2, self.world, self.plan, queries), expected)
        self.assertEqual(answers(small(), 2, self.world, tuple(self.plan), tuple(queries)), expected)

    def test_after_the_refreshes_of_the_tick(self):
        self.assertEqual(answers(small(), 1, {"b": [0, 2], "a": [0, 0]}, [(1, "b"), (1, "s")], [(1, "s", 0)]), [(2, 0)])

    def test_error_is_never_negative(self):
        for step in (-2, 2):
            self.assertEqual(answers(small(), 1, {"b": [0, step], "a": [0, 0]}, [], [(1, "b", 0)]), [(0, 2)])

    def test_pairs_are_tuples(self):
        found = answers(small(), 2, self.world, [], [(0, "b", 0)])
        self.assertEqual([found.__class__, found[0].__class__], [list, tuple])

    def test_numbers_of_queries(self):
        for many in (1, 2, 19, 20):
            self.assertEqual(answers(small(), 2, self.world, [], [(2, "b", 0)] * many), [(0, 3)] * many)
        for many in (0, 21, 22):
            self.refuse(BadQuery, answers, small(), 2, self.world, [], [(2, "b", 0)] * many)
            self.refuse(BadQuery, answers, small(), 2, self.world, [], ((2, "b", 0),) * many)

    def test_limits_of_queries(self):
        for horizon in (1, 12):
            world = still(small(), horizon)
            for tick in (0, horizon):
                for tolerance in (0, 999):
                    self.assertEqual(answers(small(), horizon, world, [], [(tick, "s", tolerance)]), [(0, 0)])
            for query in ((-1, "s", 0), (horizon + 1, "s", 0), (0, "s", -1), (0, "s", 1000)):
                self.refuse(BadQuery, answers, small(), horizon, world, [], [query])

    def test_against_reference(self):
        chance = random.Random(3)
        for at in range(100):
            network, horizon, world, plan = some_case(chance)
            queries = [some_query(chance, network, horizon) for many in range(chance.randint(1, 20))]
            expected = []
            for tick, name, tolerance in queries:
                answer = reference_cache(network, world, plan, name, tick)
                expected.append((answer, abs(answer - reference_value(network, world, name, tick))))
            self.assertEqual(answers(network, horizon, world, plan, queries), expected)

    def test_refuses_queries(self):
        for queries in wrong_query_lists():
            with self.subTest(queries=queries):
                self.refuse(BadQuery, answers, small(), 2, self.world, [], queries)

    def test_order_of_errors(self):
        for thing in NOT_NETWORKS:
            self.assertIsNone(self.refuse(BadNetwork, answers, thing, None, None, None, None).part)
        for horizon in NOT_HORIZONS:
            self.refuse(BadNumber, answers, small(), horizon, None, None, None)
        for thing in wrong_worlds():
            self.refuse(BadWorld, answers, small(), 2, thing, None, None)
        for plan in wrong_plans():
            self.refuse(BadPlan, answers, small(), 2, self.world, plan, None)


class Conventions(unittest.TestCase, Refusals):
    def test_arguments_are_left(self):
        network, world = small(), {"a": [5, 5, 5], "b": [0, 1, 3]}
        plan, queries = [(1, "b"), (2, "s")], [(2, "s", 0), (0, "a", 3)]
        self.leaves_arguments(is_world, network, 2, world)
        self.leaves_arguments(value, network, 2, world, "s", 1)
        self.leaves_arguments(caches, network, 2, world, plan)
        self.leaves_arguments(caches, network, 2, world, [])
        self.leaves_arguments(answers, network, 2, world, plan, queries)
        self.assertEqual(network, small())

    def test_rows_of_caches_are_separate(self):
        found = caches(small(), 2, still(small(), 2), [])
        found[0]["b"] = 77
        self.assertEqual([row["b"] for row in found], [77, 0, 0])
        self.assertEqual(len(containers(found)), 4)

    def test_later_changes_of_arguments_do_not_count(self):
        world = still(small(), 2, 4)
        found = caches(small(), 2, world, [])
        world["b"][0] = 99
        self.assertEqual(found, [{"b": 4, "a": 4, "s": -8}] * 3)

    def test_names_of_arguments(self):
        expected = {"is_world": ["network", "horizon", "thing"],
                    "value": ["network", "horizon", "world", "name", "tick"],
                    "caches": ["network", "horizon", "world", "plan"],
                    "answers": ["network", "horizon", "world", "plan", "queries"]}
        for name, parameters in expected.items():
            function = getattr(worlds, name)
            self.assertEqual(list(inspect.signature(function).parameters), parameters)
            self.assertEqual(function.__module__, "fewrefresh.worlds")
