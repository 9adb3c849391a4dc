"""Point [14], and the functions of fewrefresh.expiry."""

import inspect
import random
import time
import unittest

from fewrefresh.errorbounds import worst
from fewrefresh.errors import BadNetwork, BadNumber, BadPlan, BadQuery
from fewrefresh.expiry import lasts, weighing
from fewrefresh.networks import Network
from tests.cases import (NOT_HORIZONS, NOT_NETWORKS, all_refreshes, deep, small, some_case, some_query, wrong_plans,
                         wrong_queries)
from tests.helpers import Refusals
from tests.reference import reference_error, reference_lasts, reference_weighing

ONE = Network({"a": (2, 1)}, {})


def cases(seed, many):
    """Return quadruples of a network, a horizon, a plan and a query, the tolerance near its worst error."""
    chance = random.Random(seed)
    found = []
    for at in range(many):
        network, horizon, world, plan = some_case(chance)
        tick, name, tolerance = some_query(chance, network, horizon)
        error = reference_error(network, plan, (tick, name))
        tolerance = min(999, max(0, error + chance.choice((-1, 0, 0, 1, 5, 30, 100))))
        found.append((network, horizon, plan, (tick, name, tolerance)))
    return found


class Lasts(unittest.TestCase):
    def test_its_own_tick_only(self):
        for tick in (0, 1, 5):
            for tolerance in (2 * tick, 2 * tick + 1):
                found = lasts(ONE, 6, [], (tick, "a", tolerance))
                self.assertEqual((found, found.__class__), (tick, int))

    def test_up_to_the_horizon(self):
        for horizon in (1, 6, 12):
            self.assertEqual(lasts(ONE, horizon, [], (0, "a", 2 * horizon)), horizon)
            self.assertEqual(lasts(ONE, horizon, [], (0, "a", 2 * horizon - 1)), horizon - 1)
            self.assertEqual(lasts(ONE, horizon, [], (horizon, "a", 2 * horizon)), horizon)
            self.assertEqual(lasts(ONE, horizon, [], (1, "a", 999)), horizon)
            self.assertEqual(lasts(Network({"a": (0, 1)}, {}), horizon, [], (1, "a", 0)), horizon)

    def test_not_at_its_own_tick(self):
        for tick in (1, 5, 6):
            self.assertIsNone(lasts(ONE, 6, [], (tick, "a", 2 * tick - 1)))
        # That it would hold later does not matter.
        self.assertIsNone(lasts(ONE, 6, [(5, "a")], (4, "a", 7)))
        self.assertEqual(lasts(ONE, 6, [(5, "a")], (5, "a", 7)), 6)

    def test_refreshes_after_its_own_tick(self):
        query = (2, "a", 5)
        for plan, expected in (([], 2), ([(3, "a")], 5), ([(2, "a")], 4), ([(2, "a"), (5, "a")], 7),
                               ([(2, "a"), (6, "a")], 4), ([(3, "a"), (6, "a"), (8, "a"), (11, "a")], 12),
                               ([(3, "a"), (6, "a"), (9, "a")], 11), ([(4, "a")], 2)):
            self.assertEqual(lasts(ONE, 12, plan, query), expected)
            self.assertEqual(lasts(ONE, 12, tuple(plan), query), expected)

    def test_up_to_the_first_tick_at_which_it_does_not_hold(self):
        self.assertEqual(lasts(ONE, 12, [(5, "a"), (6, "a")], (0, "a", 4)), 2)

    def test_views(self):
        plan = [(1, "b"), (3, "b"), (3, "s")]
        self.assertEqual([lasts(small(), 6, plan, (2, "s", tolerance)) for tolerance in (3, 4, 5, 6)],
                         [None, 5, 5, 6])
        # A source without its view does not help.
        self.assertEqual([lasts(small(), 6, plan[:2], (2, "s", tolerance)) for tolerance in (4, 5, 6)], [2, 2, 3])

    def test_against_reference(self):
        found = []
        for network, horizon, plan, query in cases(71, 400):
            found.append(lasts(network, horizon, plan, query))
            self.assertEqual(found[-1], reference_lasts(network, horizon, plan, query))
            if found[-1] is not None:
                found[-1] -= query[0]
        self.assertTrue(all(found.count(held) > 10 for held in (None, 0, 1, 2, 3)))


class Weighing(unittest.TestCase):
    def test_sources(self):
        for drift, expected in ((0, []), (1, ["a"]), (20, ["a"])):
            network = Network({"b": (3, 1), "a": (drift, 1)}, {})
            for tick in (0, 1, 12):
                for plan in ([], [(1, "a")], [(1, "b"), (1, "a")]):
                    self.assertEqual(weighing(network, 12, plan, (tick, "a", 0)), expected)

    def test_sums(self):
        network = Network({"c": (1, 1), "b": (0, 1), "z": (5, 1), "a": (2, 1)},
                          {"s": (("sum", ((-5, "a"), (1, "b"), (1, "c"))), 1)})
        for tick in (0, 1, 4):
            for plan in ([], [(1, "a"), (1, "s")]):
                self.assertEqual(weighing(network, 4, plan, (tick, "s", 999)), ["c", "a"])

    def test_greatest_error(self):
        for kind in ("min", "max"):
            network = Network({"a": (3, 1), "b": (2, 1), "c": (0, 1)}, {"m": ((kind, ("c", "b", "a")), 1)})
            # a is off by 3 per tick, b by 2: at tick 2 by 6 and 4, and 4 + 2 is not more than 6.
            for tick, expected in ((0, ["a", "b"]), (1, ["a", "b"]), (2, ["a"]), (3, ["a"])):
                self.assertEqual(weighing(network, 3, [], (tick, "m", 0)), expected)
            self.assertEqual(weighing(network, 3, [(1, "a"), (1, "m")], (3, "m", 0)), ["a", "b"])
            self.assertEqual(weighing(network, 3, [(3, "a"), (3, "m")], (3, "m", 0)), ["b"])

    def test_nested(self):
        network = Network({"a": (1, 1), "b": (2, 1), "c": (3, 1)},
                          {"s": (("sum", ((1, "a"), (-1, "b"))), 1), "m": (("max", ("s", "c")), 1),
                           "t": (("sum", ((-2, "m"),)), 1)})
        self.assertEqual(weighing(network, 4, [], (4, "t", 0)), ["a", "b", "c"])
        plan = [(2, "c"), (2, "m"), (2, "t")]
        self.assertEqual(weighing(network, 4, plan, (4, "t", 0)), ["a", "b"])
        # The sum is off by 10, the other source by 12: 10 + 2 is not more than 12.
        plan = [(1, "b"), (1, "s"), (1, "m"), (1, "t")]
        self.assertEqual(weighing(network, 4, plan, (4, "t", 0)), ["c"])

    def test_only_sources_below(self):
        self.assertEqual(weighing(deep(), 4, [], (2, "m", 0)), ["c"])
        self.assertEqual(weighing(deep(), 4, [], (0, "m", 0)), ["c", "b"])
        self.assertEqual(weighing(deep(), 4, [], (2, "t", 0)), ["a"])
        self.assertEqual(weighing(deep(), 4, [], (2, "b", 0)), ["b"])

    def test_the_tolerance_does_not_count(self):
        for tolerance in (0, 1, 999):
            self.assertEqual(weighing(small(), 2, [], (2, "s", tolerance)), ["b"])

    def test_later_refreshes_do_not_count(self):
        network = Network({"a": (3, 1), "b": (2, 1)}, {"m": (("max", ("a", "b")), 1)})
        self.assertEqual(weighing(network, 3, [(3, "a"), (3, "m")], (2, "m", 0)), ["a"])

    def test_against_reference(self):
        sizes = {}
        for network, horizon, plan, query in cases(72, 400):
            found = weighing(network, horizon, plan, query)
            self.assertEqual(found, reference_weighing(network, plan, query))
            sizes[len(found)] = sizes.get(len(found), 0) + 1
        self.assertTrue(all(sizes.get(size, 0) > 10 for size in (0, 1, 2)), sizes)


class Conventions(unittest.TestCase, Refusals):
    calls = (lasts, weighing)

    def test_refusals(self):
        wrong = [(0, BadNetwork, NOT_NETWORKS), (1, BadNumber, NOT_HORIZONS), (2, BadPlan, wrong_plans()),
                 (3, BadQuery, wrong_queries())]
        for call in self.calls:
            self.refuse_in_order(call, (small(), 2, [(1, "b")], (2, "s", 4)), wrong)
            self.assertIsNone(self.refuse(BadNetwork, call, None, 2, [], (2, "s", 4)).part)

    def test_limits(self):
        for call in self.calls:
            for horizon in (1, 12):
                for tick in (0, horizon):
                    for tolerance in (0, 999):
                        call(small(), horizon, [(1, "b"), (horizon, "s")], (tick, "s", tolerance))
                for query in ((-1, "s", 0), (horizon + 1, "s", 0), (0, "s", -1), (0, "s", 1000)):
                    self.refuse(BadQuery, call, small(), horizon, [], query)
                self.refuse(BadPlan, call, small(), horizon, [(horizon + 1, "s")], (0, "s", 0))

    def test_arguments_are_left(self):
        for call in self.calls:
            for plan in ([(1, "b"), (2, "s")], ((1, "b"), (2, "s")), [], ()):
                self.leaves_arguments(call, small(), 2, plan, (1, "s", 4))

    def test_names_of_arguments(self):
        for call in self.calls:
            self.assertEqual(str(inspect.signature(call)), "(network, horizon, plan, query)")
            self.assertEqual(call.__module__, "fewrefresh.expiry")

    def test_largest(self):
        begun = time.process_time()
        network = Network({name: (20, 9) for name in "abcd"},
                          {"s": (("sum", ((-5, "a"), (5, "b"))), 9), "m": (("min", ("c", "d")), 9),
                           "x": (("max", ("s", "m")), 9), "t": (("sum", ((-5, "x"),)), 9)})
        for plan in ([], all_refreshes(network, 12), all_refreshes(network, 11)[::2]):
            for tick in range(13):
                for name in network.names():
                    query = (tick, name, 999)
                    self.assertEqual(lasts(network, 12, plan, query), reference_lasts(network, 12, plan, query))
                    self.assertEqual(lasts(network, 12, plan, query) is None, worst(network, 12, plan, query) > 999)
                    self.assertEqual(weighing(network, 12, plan, query), reference_weighing(network, plan, query))
        self.assertLess(time.process_time() - begun, 60)
