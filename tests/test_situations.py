"""Point [12], and the functions of fewrefresh.situations."""

import inspect
import itertools
import random
import unittest

from fewrefresh.errors import BadNetwork, BadNumber, BadRecords, BadSituation
from fewrefresh.networks import Network
from fewrefresh.situations import ranges, situation
from tests.cases import NOT_NETWORKS, RECORDS, SITUATION, small, some_case, wrong_records, wrong_situations
from tests.helpers import NOT_WHOLE, Refusals, frozen
from tests.reference import reference_value


class Situation(unittest.TestCase, Refusals):
    def test_spans(self):
        self.assertEqual(situation(small(), RECORDS, 3), {"b": (7, 7), "a": (-2, -2)})
        self.assertEqual(situation(small(), RECORDS, 4), {"b": (5, 9), "a": (-2, -2)})
        self.assertEqual(situation(small(), RECORDS, 99), {"b": (-185, 199), "a": (-2, -2)})

    def test_limits(self):
        for drift in (0, 1, 20):
            network = Network({"a": (drift, 1)}, {})
            for worth in (-9999, 0, 9999):
                for when, tick in ((0, 0), (99, 99), (0, 99), (98, 99), (0, 1)):
                    reach = drift * (tick - when)
                    self.assertEqual(situation(network, {"a": (when, worth)}, tick),
                                     {"a": (worth - reach, worth + reach)})

    def test_order(self):
        for records in (RECORDS, {"a": (0, -2), "b": (3, 7)}):
            self.assertEqual(frozen(situation(small(), records, 4)), frozen({"b": (5, 9), "a": (-2, -2)}))

    def test_only_sources(self):
        network = Network({"c": (1, 1), "a": (2, 1)}, {"m": (("max", ("a",)), 1)})
        self.assertEqual(frozen(situation(network, {"a": (1, 0), "c": (2, 0)}, 3)),
                         frozen({"c": (-1, 1), "a": (-4, 4)}))

    def test_is_a_situation(self):
        chance = random.Random(41)
        for at in range(50):
            network = some_case(chance)[0]
            records = {name: (chance.choice((0, 99, 40)), chance.choice((-9999, 0, 9999)))
                       for name in network.sources()}
            ranges(network, situation(network, records, 99))

    def test_ticks_of_the_records(self):
        for tick in (3, 4, 99):
            situation(small(), RECORDS, tick)
        for tick in (2, 1, 0):
            self.refuse(BadNumber, situation, small(), RECORDS, tick)
        # Each record counts, not only the first or the last one.
        for records in ({"b": (3, 0), "a": (5, 0)}, {"b": (5, 0), "a": (3, 0)}):
            situation(small(), records, 5)
            self.refuse(BadNumber, situation, small(), records, 4)

    def test_refusals(self):
        self.refuse_in_order(situation, (small(), RECORDS, 3),
                             [(0, BadNetwork, NOT_NETWORKS), (1, BadRecords, wrong_records()),
                              (2, BadNumber, NOT_WHOLE + (-1, 2, 100, 10 ** 30, -10 ** 30))])
        self.assertIsNone(self.refuse(BadNetwork, situation, None, RECORDS, 3).part)
        for tick in (100, -1):
            self.refuse(BadNumber, situation, small(), {"b": (0, 0), "a": (0, 0)}, tick)
        self.refuse(BadRecords, situation, small(), {"b": (0, 10000), "a": (99, 0)}, 3)


class Ranges(unittest.TestCase, Refusals):
    def test_sum(self):
        self.assertEqual(ranges(small(), {"b": (5, 9), "a": (-2, 1)}), {"b": (5, 9), "a": (-2, 1), "s": (2, 15)})

    def test_factors(self):
        for factor, expected in ((1, (-3, 4)), (5, (-15, 20)), (-1, (-4, 3)), (-5, (-20, 15))):
            network = Network({"a": (1, 1)}, {"s": (("sum", ((factor, "a"),)), 1)})
            self.assertEqual(ranges(network, {"a": (-3, 4)})["s"], expected)

    def test_least_and_greatest(self):
        for kind, expected in (("min", (-3, 4)), ("max", (1, 9))):
            network = Network({"a": (1, 1), "b": (1, 1)}, {"m": ((kind, ("a", "b")), 1)})
            self.assertEqual(ranges(network, {"a": (-3, 9), "b": (1, 4)})["m"], expected)
            self.assertEqual(ranges(network, {"a": (1, 4), "b": (-3, 9)})["m"], expected)
            self.assertEqual(ranges(network, {"a": (-3, 4), "b": (1, 9)})["m"], expected)

    def test_low_equal_to_high(self):
        self.assertEqual(ranges(small(), {"b": (4, 4), "a": (-1, -1)}), {"b": (4, 4), "a": (-1, -1), "s": (7, 7)})

    def test_limits(self):
        network = Network({"a": (1, 1), "b": (1, 1)}, {"s": (("sum", ((5, "a"), (-5, "b"))), 1)})
        wide = (-99999, 99999)
        self.assertEqual(ranges(network, {"a": wide, "b": wide}), {"a": wide, "b": wide, "s": (-999990, 999990)})
        for end in wide:
            self.assertEqual(ranges(network, {"a": (end, end), "b": (0, 0)})["s"], (5 * end, 5 * end))

    def test_order(self):
        for given in (SITUATION, {"a": (-2, -2), "b": (5, 9)}):
            self.assertEqual(frozen(ranges(small(), given)), frozen({"b": (5, 9), "a": (-2, -2), "s": (11, 15)}))

    def test_against_all_values(self):
        chance = random.Random(42)
        for at in range(80):
            network = some_case(chance)[0]
            spans = {}
            for name in network.sources():
                low = chance.randint(-6, 6)
                spans[name] = (low, low + chance.randint(0, 1 if len(network.sources()) > 4 else 3))
            combinations = itertools.product(*[range(low, high + 1) for low, high in spans.values()])
            worlds = [{name: [worth] for name, worth in zip(spans, worths)} for worths in combinations]
            expected = {}
            for name in network.names():
                values = [reference_value(network, world, name, 0) for world in worlds]
                expected[name] = (min(values), max(values))
            self.assertEqual(frozen(ranges(network, spans)), frozen(expected))

    def test_refusals(self):
        self.refuse_in_order(ranges, (small(), SITUATION),
                             [(0, BadNetwork, NOT_NETWORKS), (1, BadSituation, wrong_situations())])
        self.assertIsNone(self.refuse(BadNetwork, ranges, None, SITUATION).part)


class Conventions(unittest.TestCase, Refusals):
    def test_arguments_are_left(self):
        for records in (RECORDS, {"a": (0, -2), "b": (3, 7)}):
            self.leaves_arguments(situation, small(), records, 5)
        for given in (SITUATION, {"a": (-2, 1), "b": (5, 9)}):
            self.leaves_arguments(ranges, small(), given)

    def test_later_changes_of_arguments_do_not_count(self):
        records, given = dict(RECORDS), dict(SITUATION)
        found = [situation(small(), records, 4), ranges(small(), given)]
        before = frozen(found)
        records.clear()
        given.clear()
        self.assertEqual(frozen(found), before)

    def test_pairs_are_tuples(self):
        found = [*situation(small(), RECORDS, 4).values(), *ranges(small(), SITUATION).values()]
        self.assertEqual({pair.__class__ for pair in found}, {tuple})

    def test_names_of_arguments(self):
        self.assertEqual(list(inspect.signature(situation).parameters), ["network", "records", "tick"])
        self.assertEqual(list(inspect.signature(ranges).parameters), ["network", "situation"])
        self.assertEqual({situation.__module__, ranges.__module__}, {"fewrefresh.situations"})
