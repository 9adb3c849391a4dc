"""Points [4], [7] and [11], and the functions of fewrefresh.plans."""

import inspect
import random
import unittest

from fewrefresh.errors import BadNetwork, BadNumber, BadPlan, BadQuery, NotSufficient
from fewrefresh.networks import Network
from fewrefresh.plans import cost, delayed, is_sufficient, redundant, slacks, trimmed
from tests.cases import (NOT_HORIZONS, NOT_NETWORKS, all_refreshes, deep, small, some_case, some_query,
                         some_sufficient, wrong_plans, wrong_query_lists)
from tests.helpers import Refusals
from tests.reference import (reference_cost, reference_delayed, reference_error, reference_sufficient,
                             reference_trimmed)

ONE = Network({"a": (2, 1)}, {})
PAIR = Network({"b": (1, 1), "a": (1, 1)}, {})


class Cost(unittest.TestCase, Refusals):
    def test_costs(self):
        for plan, expected in (([], 0), ([(1, "b")], 1), ([(1, "a")], 3), ([(2, "s")], 2),
                               ([(1, "b"), (1, "s"), (2, "b"), (2, "a")], 7)):
            self.assertEqual(cost(small(), 2, plan), expected)
            self.assertEqual(cost(small(), 2, tuple(plan)), expected)

    def test_greatest(self):
        network = Network({name: (20, 9) for name in "abcdefgh"}, {})
        self.assertEqual(cost(network, 12, all_refreshes(network, 12)), 12 * 8 * 9)

    def test_against_reference(self):
        chance = random.Random(21)
        for at in range(50):
            network, horizon, world, plan = some_case(chance)
            self.assertEqual(cost(network, horizon, plan), reference_cost(network, plan))


class IsSufficient(unittest.TestCase, Refusals):
    def test_tolerance_equal_to_the_worst_error(self):
        for tolerance, told in ((7, False), (8, True), (9, True)):
            self.assertIs(is_sufficient(ONE, 4, [], [(4, "a", tolerance)]), told)

    def test_every_query_counts(self):
        good, bad = (2, "a", 4), (3, "a", 5)
        for queries, told in (([good], True), ([bad], False), ([good, bad], False), ([bad, good], False),
                              ([good] * 19 + [bad], False), ([good] * 20, True)):
            self.assertIs(is_sufficient(ONE, 4, [], queries), told)
            self.assertIs(is_sufficient(ONE, 4, (), tuple(queries)), told)

    def test_tick_0_and_the_horizon(self):
        for horizon in (1, 12):
            self.assertIs(is_sufficient(deep(), horizon, [], [(0, name, 0) for name in deep().names()]), True)
            self.assertIs(is_sufficient(deep(), horizon, all_refreshes(deep(), horizon), [(horizon, "t", 0)]), True)
            self.assertIs(is_sufficient(deep(), horizon, [], [(horizon, "t", 0)]), False)

    def test_against_reference(self):
        chance = random.Random(22)
        told = []
        for at in range(200):
            network, horizon, world, plan = some_case(chance)
            queries = [some_query(chance, network, horizon) for many in range(chance.randint(1, 5))]
            told.append(is_sufficient(network, horizon, plan, queries))
            self.assertIs(told[-1], reference_sufficient(network, plan, queries))
        self.assertEqual({False, True}, set(told))


class Slacks(unittest.TestCase, Refusals):
    def test_slacks(self):
        queries = [(4, "a", 8), (4, "a", 999), (0, "a", 0), (1, "a", 5), (4, "a", 8)]
        self.assertEqual(slacks(ONE, 4, [], queries), [0, 991, 0, 3, 0])
        self.assertEqual(slacks(ONE, 4, ((3, "a"),), tuple(queries)), [6, 997, 0, 3, 6])

    def test_against_reference(self):
        chance = random.Random(23)
        for at in range(100):
            network, horizon, plan, queries = some_sufficient(chance)
            self.assertEqual(slacks(network, horizon, plan, queries),
                             [query[2] - reference_error(network, plan, query) for query in queries])


class Redundant(unittest.TestCase, Refusals):
    def test_each_on_its_own(self):
        # Each of them may be missing, but not both.
        plan = [(2, "a"), (3, "a")]
        self.assertEqual(redundant(ONE, 4, plan, [(4, "a", 4)]), plan)
        self.assertEqual(redundant(ONE, 4, plan, [(4, "a", 3)]), [(2, "a")])
        self.assertEqual(redundant(ONE, 4, plan, [(4, "a", 3), (2, "a", 3)]), [])
        self.assertEqual(redundant(ONE, 4, plan, [(1, "a", 2)]), plan)
        self.assertEqual(redundant(ONE, 4, [], [(1, "a", 2)]), [])

    def test_source_without_its_view(self):
        self.assertEqual(redundant(small(), 2, [(1, "b"), (2, "b"), (2, "s")], [(2, "s", 0)]), [(1, "b")])
        self.assertEqual(redundant(small(), 2, [(2, "b"), (2, "s")], [(2, "b", 0)]), [(2, "s")])

    def test_order(self):
        plan = all_refreshes(deep(), 3)
        self.assertEqual(redundant(deep(), 3, plan, [(0, "t", 0)]), plan)
        self.assertEqual(redundant(deep(), 3, tuple(plan), [(0, "t", 0)]), plan)

    def test_against_reference(self):
        chance = random.Random(24)
        for at in range(100):
            network, horizon, plan, queries = some_sufficient(chance)
            expected = [plan[at] for at in range(len(plan))
                        if reference_sufficient(network, plan[:at] + plan[at + 1:], queries)]
            self.assertEqual(redundant(network, horizon, plan, queries), expected)


class Trimmed(unittest.TestCase, Refusals):
    def test_from_the_last_one(self):
        plan = [(2, "a"), (3, "a")]
        self.assertEqual(trimmed(ONE, 4, plan, [(4, "a", 4)]), [(2, "a")])
        self.assertEqual(trimmed(ONE, 4, plan, [(4, "a", 3)]), [(3, "a")])
        self.assertEqual(trimmed(ONE, 4, plan, [(4, "a", 3), (2, "a", 3)]), plan)
        self.assertEqual(trimmed(ONE, 4, plan, [(4, "a", 8)]), [])

    def test_order_within_a_tick(self):
        network = Network({"b": (1, 1), "a": (1, 1)}, {"m": (("sum", ((1, "b"), (1, "a"))), 1)})
        plan = [(1, "b"), (1, "a"), (1, "m")]
        self.assertEqual(trimmed(network, 1, plan, [(1, "m", 1)]), [(1, "b"), (1, "m")])

    def test_removed_in_what_remains(self):
        # Without the view, the sources are redundant, too.
        self.assertEqual(trimmed(small(), 2, [(1, "b"), (1, "a"), (1, "s")], [(1, "s", 2)]), [])

    def test_against_reference(self):
        chance = random.Random(25)
        for at in range(100):
            network, horizon, plan, queries = some_sufficient(chance)
            found = trimmed(network, horizon, plan, queries)
            self.assertEqual(found, reference_trimmed(network, plan, queries))
            self.assertEqual(redundant(network, horizon, found, queries), [])
            self.assertEqual(trimmed(network, horizon, tuple(plan), tuple(queries)), found)


class Delayed(unittest.TestCase, Refusals):
    def test_as_late_as_possible(self):
        self.assertEqual(delayed(ONE, 4, [(2, "a")], [(4, "a", 4)]), [(4, "a")])
        self.assertEqual(delayed(ONE, 4, [(2, "a")], [(4, "a", 4), (3, "a", 2)]), [(3, "a")])
        self.assertEqual(delayed(ONE, 4, [(2, "a")], [(4, "a", 4), (2, "a", 0)]), [(2, "a")])
        self.assertEqual(delayed(ONE, 4, [(1, "a")], [(4, "a", 8), (1, "a", 0)]), [(1, "a")])
        self.assertEqual(delayed(ONE, 4, [], [(4, "a", 8)]), [])

    def test_up_to_the_horizon_after_the_last_query(self):
        self.assertEqual(delayed(ONE, 12, [(2, "a")], [(4, "a", 8)]), [(12, "a")])
        self.assertEqual(delayed(ONE, 12, [(12, "a")], [(4, "a", 8)]), [(12, "a")])

    def test_ticks_that_are_taken(self):
        self.assertEqual(delayed(ONE, 4, [(2, "a"), (3, "a")], [(1, "a", 2)]), [(3, "a"), (4, "a")])
        self.assertEqual(delayed(ONE, 4, [(3, "a"), (4, "a")], [(1, "a", 2)]), [(3, "a"), (4, "a")])
        # The first one passes the second one, which stays for the query at its tick.
        self.assertEqual(delayed(ONE, 4, [(2, "a"), (3, "a")], [(3, "a", 0)]), [(3, "a"), (4, "a")])

    def test_other_nodes_do_not_take_a_tick(self):
        self.assertEqual(delayed(PAIR, 2, [(1, "b"), (2, "a")], [(0, "a", 0)]), [(2, "b"), (2, "a")])
        self.assertEqual(delayed(PAIR, 2, [(1, "a"), (2, "b")], [(0, "a", 0)]), [(2, "b"), (2, "a")])

    def test_from_the_last_one(self):
        # If the source went first, it could not go beyond its view.
        plan = [(1, "b"), (2, "s")]
        self.assertEqual(delayed(small(), 4, plan, [(4, "s", 6)]), [(4, "b"), (4, "s")])
        self.assertEqual(delayed(small(), 4, plan, [(3, "s", 4)]), [(3, "b"), (3, "s")])

    def test_latest_tick_not_the_next_one(self):
        # At tick 3 the view would be too old for the query at tick 3, at tick 4 the source does not matter.
        network = Network({"a": (1, 1)}, {"m": (("min", ("a",)), 1)})
        self.assertEqual(delayed(network, 5, [(1, "a"), (2, "m")], [(2, "m", 1), (5, "m", 4)]), [(2, "a"), (2, "m")])
        self.assertEqual(delayed(network, 5, [(1, "a"), (2, "a"), (2, "m")], [(2, "m", 0), (3, "a", 1)]),
                         [(2, "a"), (2, "m"), (5, "a")])

    def test_order(self):
        self.assertEqual(delayed(PAIR, 3, [(1, "b"), (1, "a"), (2, "b"), (2, "a")], [(0, "a", 0)]),
                         [(2, "b"), (2, "a"), (3, "b"), (3, "a")])

    def test_against_reference(self):
        chance = random.Random(26)
        moved = 0
        for at in range(100):
            network, horizon, plan, queries = some_sufficient(chance)
            found = delayed(network, horizon, plan, queries)
            self.assertEqual(found, reference_delayed(network, horizon, plan, queries))
            self.assertIs(is_sufficient(network, horizon, found, queries), True)
            self.assertEqual(delayed(network, horizon, tuple(plan), tuple(queries)), found)
            moved += found != plan
        self.assertGreater(moved, 20)


class Conventions(unittest.TestCase, Refusals):
    need_sufficient = (slacks, redundant, trimmed, delayed)

    def test_refusals(self):
        wrong = [(0, BadNetwork, NOT_NETWORKS), (1, BadNumber, NOT_HORIZONS), (2, BadPlan, wrong_plans())]
        self.refuse_in_order(cost, (small(), 2, []), wrong)
        wrong.append((3, BadQuery, wrong_query_lists()))
        for call in (is_sufficient,) + self.need_sufficient:
            self.refuse_in_order(call, (small(), 2, [], [(2, "s", 4)]), wrong)
            self.refuse_in_order(call, (small(), 2, [], [(2, "s", 3)]), wrong)
            self.assertIsNone(self.refuse(BadNetwork, call, None, 2, [], [(2, "s", 4)]).part)
        self.assertIsNone(self.refuse(BadNetwork, cost, None, 2, []).part)

    def test_not_sufficient(self):
        for call in self.need_sufficient:
            call(ONE, 4, [(2, "a")], [(4, "a", 4)])
            self.refuse(NotSufficient, call, ONE, 4, [(2, "a")], [(4, "a", 3)])
            self.refuse(NotSufficient, call, ONE, 4, [(2, "a")], [(4, "a", 4), (1, "a", 1)])
            self.refuse(NotSufficient, call, ONE, 4, (), ((4, "a", 7),))

    def test_numbers_of_queries(self):
        for call in (is_sufficient,) + self.need_sufficient:
            for many in (1, 20):
                call(ONE, 4, [], [(1, "a", 2)] * many)
            for many in (0, 21):
                self.refuse(BadQuery, call, ONE, 4, [], [(1, "a", 2)] * many)

    def test_arguments_are_left(self):
        self.leaves_arguments(cost, small(), 2, [(1, "b"), (2, "s")])
        for call in (is_sufficient,) + self.need_sufficient:
            for plan in ([(1, "b"), (2, "s")], ((1, "b"), (2, "s")), [], ()):
                self.leaves_arguments(call, small(), 2, plan, [(2, "s", 4), (0, "a", 3)])
                self.leaves_arguments(call, small(), 2, plan, ((2, "s", 4), (0, "a", 3)))

    def test_nothing_to_change_gives_a_new_list(self):
        plan = [(4, "a")]
        for call in (trimmed, delayed):
            found = call(ONE, 4, plan, [(4, "a", 0)])
            self.assertEqual(found, plan)
            self.assertIsNot(found, plan)

    def test_names_of_arguments(self):
        expected = ["network", "horizon", "plan", "queries"]
        self.assertEqual(list(inspect.signature(cost).parameters), expected[:3])
        for call in (is_sufficient,) + self.need_sufficient:
            self.assertEqual(list(inspect.signature(call).parameters), expected)
            self.assertEqual(call.__module__, "fewrefresh.plans")
        self.assertEqual(cost.__module__, "fewrefresh.plans")

    def test_largest(self):
        network = Network({name: (2, 9) for name in "abcd"},
                          {"s": (("sum", ((-1, "a"), (1, "b"))), 9), "m": (("min", ("c", "d")), 9),
                           "x": (("max", ("s", "m")), 9), "t": (("sum", ((-2, "x"),)), 9)})
        full, queries = all_refreshes(network, 12), [(tick, "t", 40 + tick) for tick in range(3, 13)] * 2
        for plan in [[refresh for refresh in full if refresh[0] % step == 0] for step in (1, 2, 3)]:
            self.assertIs(is_sufficient(network, 12, plan, queries), True)
            self.assertEqual(trimmed(network, 12, plan, queries), reference_trimmed(network, plan, queries))
            self.assertIs(is_sufficient(network, 12, delayed(network, 12, plan, queries), queries), True)
            self.assertEqual(len(slacks(network, 12, plan, queries)), 20)
            redundant(network, 12, plan, queries)
