"""Point [13], and what stands in fewrefresh.reading."""

import copy
import inspect
import random
import time
import unittest

from fewrefresh.errors import BadChoice, BadNetwork, BadQuery, BadSituation, BadValues, TooLarge
from fewrefresh.networks import Network
from fewrefresh.reading import Reading, is_enough, middle, what_to_read
from fewrefresh.situations import ranges
from tests.cases import (NOT_NETWORKS, NOT_NODES, SITUATION, small, some_case, some_formula, wrong_dicts,
                         wrong_situations)
from tests.helpers import NOT_WHOLE, STRANGERS, Refusals, containers, frozen, spoil
from tests.reference import (is_doubt_of, reference_choices, reference_enough, reference_reading_shows,
                             reference_sources, reference_value, reference_worths, subsets)

ONE = Network({"a": (2, 1)}, {})
PAIR = Network({"a": (2, 1), "b": (1, 3)}, {"m": (("max", ("a", "b")), 2)})
NOW = {"a": (6, 14), "b": (5, 11)}
# The order is not that of the alphabet, and z is not below any view.
MIXED = Network({"z": (1, 1), "c": (1, 2), "b": (1, 2), "a": (1, 2)},
                {"s": (("sum", ((1, "c"), (-1, "b"))), 1), "t": (("sum", ((2, "s"), (1, "a"))), 1)})


def parts(found):
    """Return the attributes of a Reading."""
    return found.chosen, found.doubts


def some_tree(chance):
    """Return a network of which most or all sources are below its last view."""
    letters = chance.sample("abcdefgh", 8)
    many = chance.randint(2, 6)
    sources = {name: (chance.randint(0, 20), chance.choice((1, 1, 2, 3, 5, 9))) for name in letters[:many]}
    free, views = list(sources), {}
    for name in letters[many:]:
        if len(free) > 1:
            views[name] = (some_formula(chance, free), chance.randint(1, 9))
            free.append(name)
    return Network(sources, views)


def some_question(chance, most=250):
    """Return a network, a situation and a question with so many combinations of values at most."""
    network = chance.choice((some_tree(chance), some_case(chance)[0]))
    name = chance.choice(network.names()[-2:] + network.names()[-1:])
    room, spans = most, {}
    for source in network.sources():
        wide = chance.choice((0, 1, 1, 1, 2, 2, 2, 3, 3, 11))
        if source in reference_sources(network, name):
            wide = min(wide, room - 1)
            room //= wide + 1
        low = chance.randint(-40, 40)
        spans[source] = (low, low + wide)
    low, high = ranges(network, spans)[name]
    tolerance = chance.randint(0, min(999, (high - low) * chance.choice((0, 1, 2, 3, 4, 5)) // 8))
    names = chance.sample(list(spans), len(spans))
    return network, {source: spans[source] for source in names}, (name, tolerance)


def wrong_questions():
    """Return things that are not questions for small()."""
    wrong = list(STRANGERS) + [True, 0, ["s", 0], {0: "s", 1: 0}, {"s": 0}, (), ("s",), ("s", 0, 0), (0, "s"),
                               (0, "s", 0), ("s", -1), ("s", 1000), ("s", 10 ** 30), "s0"]
    return wrong + [("s", tolerance) for tolerance in NOT_WHOLE] + [(name, 0) for name in NOT_NODES]


def wrong_choices():
    """Return things that are not lists or tuples of different sources of small(), in order."""
    wrong = list(STRANGERS) + [True, 0, "b", "ba", {"b": 1}, {"b", "a"}, frozenset("b")]
    rows = [["a", "b"], ["b", "b"], ["b", "a", "b"], ["b", "a", "a"], ["s"], ["b", "s"], ["b", "a", "s"], ["ba"],
            [["b"]], [("b",)], ["b", ("a",)]] + [[name] for name in NOT_NODES] + [["b", name] for name in NOT_NODES]
    return wrong + rows + [tuple(row) for row in rows]


def wrong_values():
    """Return things that are not values of sources of small() within SITUATION."""
    good = {"b": 7, "a": -2}
    empty = ({}, {"b": 7}, {"a": -2})
    wrong = [thing for thing in wrong_dicts(good) if thing not in empty]
    for worth in NOT_WHOLE + (4, 10, 10 ** 30, -10 ** 30, "7", (5, 9)):
        wrong.extend([{"b": worth}, {"b": worth, "a": -2}])
    for worth in NOT_WHOLE + (-1, -3):
        wrong.extend([{"a": worth}, {"b": 7, "a": worth}])
    return wrong + [{"s": 11}, {"b": 7, "s": 13}, {"q": 0}, {"": 0}]


class IsEnough(unittest.TestCase):
    def test_range_twice_the_tolerance_wide_and_one_wider(self):
        for tolerance in (0, 1, 2, 999):
            for low in (-2000, -1, 0, 5):
                wide = 2 * tolerance
                self.assertIs(is_enough(ONE, {"a": (low, low + wide)}, ("a", tolerance), []), True)
                self.assertIs(is_enough(ONE, {"a": (low, low + wide + 1)}, ("a", tolerance), []), False)
                self.assertIs(is_enough(ONE, {"a": (low, low + wide + 1)}, ("a", tolerance), ["a"]), True)

    def test_every_value_counts(self):
        # The range is wide for one value of a, which is the last or the first one of its values.
        for span, told in (((9, 14), True), ((6, 14), True), ((5, 14), True), ((4, 14), True)):
            self.assertIs(is_enough(PAIR, {"a": span, "b": (5, 11)}, ("m", 3), ["a"]), told)
        for span, told in (((7, 14), True), ((6, 14), False), ((6, 6), False), ((7, 7), True)):
            self.assertIs(is_enough(PAIR, {"a": span, "b": (5, 11)}, ("m", 2), ["a"]), told)
        least = Network(PAIR.sources(), {"m": (("min", ("a", "b")), 2)})
        for span, told in (((6, 9), True), ((6, 10), False), ((10, 10), False), ((-9, 9), True)):
            self.assertIs(is_enough(least, {"a": span, "b": (5, 11)}, ("m", 2), ["a"]), told)

    def test_low_equal_to_high(self):
        for chosen in ([], ["b"], ["a"], ["b", "a"]):
            self.assertIs(is_enough(small(), {"b": (4, 4), "a": (-9, -9)}, ("s", 0), chosen), True)
        for chosen, told in (([], False), (["b"], True), (["a"], False), (["b", "a"], True)):
            self.assertIs(is_enough(small(), {"b": (4, 5), "a": (-9, -9)}, ("s", 0), chosen), told)

    def test_lists_and_tuples(self):
        for kind in (list, tuple):
            self.assertIs(is_enough(PAIR, NOW, ("m", 3), kind("a")), True)
            self.assertIs(is_enough(PAIR, NOW, ("m", 3), kind("b")), False)
            self.assertIs(is_enough(PAIR, NOW, ("m", 3), kind("ab")), True)
            self.assertIs(is_enough(PAIR, NOW, ("m", 3), kind("")), False)

    def test_sources_that_are_not_below(self):
        spans = {"z": (-99999, 99999), "c": (0, 4), "b": (0, 0), "a": (-99999, 99999)}
        for chosen, told in (([], False), (["z"], False), (["c"], True), (["z", "c"], True), (["z", "a"], False),
                             (["z", "c", "b", "a"], True)):
            self.assertIs(is_enough(MIXED, spans, ("s", 0), chosen), told)
            self.assertIs(is_enough(MIXED, spans, ("c", 0), chosen), told)

    def test_question_about_a_source(self):
        for name, chosen, told in (("a", [], False), ("a", ["b"], False), ("a", ["a"], True), ("b", ["a"], False),
                                   ("b", ["a", "b"], True)):
            self.assertIs(is_enough(PAIR, NOW, (name, 0), chosen), told)

    def test_factors(self):
        for factor in (-5, -1, 1, 5):
            network = Network({"a": (1, 1)}, {"s": (("sum", ((factor, "a"),)), 1)})
            for tolerance in (0, 1, 7, 8, 20):
                told = abs(factor) * 3 <= 2 * tolerance
                self.assertIs(is_enough(network, {"a": (-1, 2)}, ("s", tolerance), []), told)

    def test_against_all_assignments(self):
        chance = random.Random(61)
        seen = []
        for at in range(150):
            network, spans, question = some_question(chance)
            worths = reference_worths(network, spans, question[0])
            for chosen in subsets(list(network.sources())):
                seen.append(is_enough(network, spans, question, chosen))
                self.assertIs(seen[-1], reference_enough(worths, question[1], chosen))
        self.assertGreater(seen.count(True), 200)
        self.assertGreater(seen.count(False), 200)


class WhatToRead(unittest.TestCase):
    def check(self, network, spans, question):
        found = what_to_read(network, spans, question)
        worths = reference_worths(network, spans, question[0])
        expected = [chosen for chosen in reference_choices(network) if reference_enough(worths, question[1], chosen)]
        self.assertEqual(found.chosen, expected[0])
        for doubt in found.doubts:
            self.assertEqual([list(part) for part in doubt], [list(network.sources())] * 2)
            self.assertIs(is_doubt_of(network, spans, question, doubt), True)
        self.assertIs(reference_reading_shows(*parts(found), network, spans, question), True)
        self.assertIs(found.shows(network, spans, question), True)
        return found

    def test_nothing_to_read(self):
        for question in (("m", 4), ("m", 999), ("b", 3)):
            self.assertEqual(parts(self.check(PAIR, NOW, question)), ([], []))
        self.assertEqual(parts(self.check(PAIR, {"a": (6, 6), "b": (-1, -1)}, ("m", 0))), ([], []))

    def test_range_twice_the_tolerance_wide_and_one_wider(self):
        for tolerance in (0, 1, 999):
            wide = 2 * tolerance
            self.assertEqual(self.check(ONE, {"a": (-3, wide - 3)}, ("a", tolerance)).chosen, [])
            self.assertEqual(self.check(ONE, {"a": (-3, wide - 2)}, ("a", tolerance)).chosen, ["a"])

    def test_question_about_a_source(self):
        self.assertEqual(self.check(PAIR, NOW, ("b", 2)).chosen, ["b"])
        self.assertEqual(self.check(PAIR, NOW, ("a", 3)).chosen, ["a"])

    def test_first_of_the_cheapest(self):
        # One of c and b is enough, and c comes first in the order of the nodes.
        spans = {"a": (3, 3), "b": (0, 4), "c": (0, 4), "z": (0, 9)}
        self.assertEqual(self.check(MIXED, spans, ("s", 2)).chosen, ["c"])
        self.assertEqual(self.check(MIXED, {**spans, "a": (0, 8)}, ("t", 8)).chosen, ["c"])
        self.assertEqual(self.check(MIXED, {**spans, "a": (0, 8)}, ("t", 4)).chosen, ["c", "b"])
        self.assertEqual(self.check(MIXED, {**spans, "a": (0, 8), "c": (0, 3)}, ("t", 7)).chosen, ["b"])
        self.assertEqual(self.check(MIXED, {**spans, "a": (0, 10), "c": (0, 3)}, ("t", 7)).chosen, ["a"])

    def test_cost_before_order_and_number(self):
        network = Network({"a": (1, 3), "b": (1, 1), "c": (1, 1)},
                          {"s": (("sum", ((2, "a"), (1, "b"), (1, "c"))), 1)})
        self.assertEqual(self.check(network, {"a": (0, 4), "b": (0, 4), "c": (0, 4)}, ("s", 4)).chosen, ["b", "c"])
        self.assertEqual(self.check(network, {"a": (0, 4), "b": (0, 4), "c": (0, 4)}, ("s", 6)).chosen, ["b"])
        self.assertEqual(self.check(network, {"a": (0, 4), "b": (0, 4), "c": (0, 4)}, ("s", 3)).chosen, ["a", "b"])

    def test_sources_that_are_not_below_are_not_read(self):
        spans = {"z": (-99999, 99999), "c": (-99999, -99997), "b": (99999, 99999), "a": (-99999, 99999)}
        self.assertEqual(self.check(MIXED, spans, ("s", 0)).chosen, ["c"])
        self.assertEqual(self.check(MIXED, spans, ("s", 1)).chosen, [])

    def test_sources_with_one_value_are_not_read(self):
        spans = {"z": (0, 0), "c": (5, 5), "b": (0, 3), "a": (-7, -7)}
        self.assertEqual(self.check(MIXED, spans, ("t", 0)).chosen, ["b"])

    def test_order_of_the_situation(self):
        given = {"b": NOW["b"], "a": NOW["a"]}
        self.assertEqual(frozen(parts(self.check(PAIR, given, ("m", 2)))),
                         frozen(parts(self.check(PAIR, NOW, ("m", 2)))))

    def test_against_all_sets(self):
        chance = random.Random(62)
        sizes = {}
        for at in range(400):
            found = self.check(*some_question(chance))
            sizes[len(found.chosen)] = sizes.get(len(found.chosen), 0) + 1
        self.assertTrue(all(sizes.get(size, 0) > 5 for size in (0, 1, 2, 3)), sizes)

    def test_doubts_have_no_differences_that_they_do_not_need(self):
        chance = random.Random(66)
        many = 0
        for at in range(200):
            network, spans, question = some_question(chance)
            for first, second in what_to_read(network, spans, question).doubts:
                for name in spans:
                    if first[name] != second[name]:
                        many += 1
                        closer = (first, {**second, name: first[name]})
                        self.assertIs(is_doubt_of(network, spans, question, closer), False)
        self.assertGreater(many, 100)

    def test_ends_of_the_limits(self):
        for low, high in ((-99999, -99998), (99998, 99999)):
            found = self.check(Network({"a": (1, 1), "b": (1, 2)}, {"s": (("sum", ((5, "a"), (-5, "b"))), 1)}),
                               {"a": (low, high), "b": (low, high)}, ("s", 2))
            self.assertEqual(found.chosen, ["a", "b"])

    def test_kinds_of_values(self):
        found = what_to_read(PAIR, NOW, ("m", 2))
        self.assertEqual([part.__class__ for part in parts(found)], [list, list])
        self.assertTrue(found.doubts)
        for doubt in found.doubts:
            self.assertEqual([doubt.__class__] + [part.__class__ for part in doubt], [tuple, dict, dict])


class Shows(unittest.TestCase):
    question = ("m", 2)

    def setUp(self):
        self.found = what_to_read(PAIR, NOW, self.question)
        self.assertEqual(self.found.chosen, ["a", "b"])

    def shown(self, network=PAIR, spans=NOW, question=question):
        told = self.found.shows(network, spans, question)
        self.assertIs(told, reference_reading_shows(*parts(self.found), network, spans, question))
        return told

    def test_correct(self):
        self.assertIs(self.shown(), True)
        self.assertIs(self.shown(spans={"b": NOW["b"], "a": NOW["a"]}), True)

    def test_sets_that_are_not_enough(self):
        for chosen in ([], ["a"], ["b"]):
            self.found.chosen = chosen
            self.assertIs(self.shown(), False)

    def test_another_set_of_the_same_cost(self):
        spans = {"z": (0, 9), "c": (0, 4), "b": (0, 4), "a": (3, 3)}
        self.found = what_to_read(MIXED, spans, ("s", 2))
        for chosen, told in ((["c"], True), (["b"], True), (["a"], False), (["z"], False), ([], False)):
            self.found.chosen = chosen
            self.assertIs(self.shown(MIXED, spans, ("s", 2)), told)

    def test_dearer_sets(self):
        spans = {"z": (0, 9), "c": (0, 4), "b": (0, 4), "a": (3, 3)}
        self.found = what_to_read(MIXED, spans, ("s", 2))
        for chosen in (["z", "c"], ["c", "b"], ["c", "a"], ["z", "b"], ["z", "c", "b", "a"]):
            self.found.chosen = chosen
            self.assertIs(is_enough(MIXED, spans, ("s", 2), chosen), True)
            self.assertIs(self.shown(MIXED, spans, ("s", 2)), False)

    def test_lists_that_are_no_choice(self):
        for chosen in (["b", "a"], ["a", "b", "b"], ["a", "b", "m"], ["a", "b", "q"]):
            self.found.chosen = chosen
            self.assertIs(self.found.shows(PAIR, NOW, self.question), False)

    def test_doubts_removed(self):
        good = self.found.doubts
        for at in range(len(good)):
            self.found.doubts = good[:at] + good[at + 1:]
            self.assertIs(self.shown(), False)
        self.found.doubts = []
        self.assertIs(self.shown(), False)

    def test_doubts_repeated_or_in_another_order(self):
        self.found.doubts = self.found.doubts[::-1] + self.found.doubts
        self.assertIs(self.shown(), True)
        self.found.doubts = [(second, first) for first, second in self.found.doubts]
        self.assertIs(self.shown(), True)

    def test_no_doubts(self):
        self.assertIs(Reading([], []).shows(PAIR, NOW, ("m", 4)), True)
        self.assertIs(Reading([], []).shows(PAIR, NOW, ("m", 3)), False)
        self.assertIs(Reading(["a"], []).shows(PAIR, NOW, ("m", 4)), False)

    def test_doubts_are_tuples(self):
        self.found.doubts = [list(doubt) for doubt in self.found.doubts]
        self.assertIs(self.found.shows(PAIR, NOW, self.question), False)

    def change(self, changed):
        """Yield what shows tells if one assignment at a time is changed, by a function that returns the new one."""
        good = self.found.doubts
        for at in range(len(good)):
            for side in (0, 1):
                pair = list(copy.deepcopy(good[at]))
                pair[side] = changed(pair[side])
                self.found.doubts = good[:at] + [tuple(pair)] + good[at + 1:]
                yield self.shown()
                # Beside the good ones, a wrong one counts, too.
                self.found.doubts = good + [tuple(pair)]
                yield self.shown()
        self.found.doubts = good

    def test_sources_of_a_doubt(self):
        for name in ("a", "b"):
            fewer = list(self.change(lambda part: {other: part[other] for other in part if other != name}))
            self.assertEqual(set(fewer), {False})
        self.assertEqual(set(self.change(lambda part: {})), {False})
        for name in ("m", "q", ""):
            self.assertEqual(set(self.change(lambda part: {**part, name: 6})), {False})
            self.assertEqual(set(self.change(lambda part: {"a": part["a"], name: 6})), {False})

    def test_sources_in_another_order(self):
        self.assertEqual(set(self.change(lambda part: dict(reversed(list(part.items()))))), {True})

    def test_values_just_outside_the_situation(self):
        for name, (low, high) in NOW.items():
            for worth in (low - 1, high + 1, low - 100, high + 100):
                self.assertEqual(set(self.change(lambda part: {**part, name: worth})), {False})

    def test_values_are_not_booleans(self):
        spans = {"a": (0, 1)}
        self.assertIs(Reading(["a"], [({"a": 0}, {"a": 1})]).shows(ONE, spans, ("a", 0)), True)
        self.assertIs(Reading(["a"], [({"a": False}, {"a": 1})]).shows(ONE, spans, ("a", 0)), False)
        self.assertIs(Reading(["a"], [({"a": 0}, {"a": True})]).shows(ONE, spans, ("a", 0)), False)

    def test_difference_of_exactly_twice_the_tolerance(self):
        for first, second, told in ((6, 10, False), (10, 6, False), (6, 11, True), (11, 6, True), (6, 14, True),
                                    (9, 14, True), (10, 14, False), (8, 8, False)):
            self.found = Reading(["a"], [({"a": first}, {"a": second})])
            self.assertIs(self.shown(ONE, {"a": (6, 14)}, ("a", 2)), told)
        self.found = Reading(["a"], [({"a": 6}, {"a": 6})])
        self.assertIs(self.shown(ONE, {"a": (6, 14)}, ("a", 0)), False)
        self.found = Reading(["a"], [({"a": 6}, {"a": 7})])
        self.assertIs(self.shown(ONE, {"a": (6, 14)}, ("a", 0)), True)

    def test_the_values_of_the_node_count(self):
        # The sources differ by much, the node does not.
        self.found.doubts[0] = ({"a": 6, "b": 11}, {"a": 14, "b": 11})
        self.found.doubts[1:] = [({"a": 6, "b": 5}, {"a": 6, "b": 11})]
        self.assertIs(self.shown(), False)
        self.found.doubts[0] = ({"a": 6, "b": 8}, {"a": 14, "b": 8})
        self.assertIs(self.shown(), True)

    def test_doubts_with_further_differences_say_less(self):
        spans = {"z": (0, 9), "c": (0, 9), "b": (4, 4), "a": (3, 3)}
        first, second = {"z": 0, "c": 0, "b": 4, "a": 3}, {"z": 0, "c": 9, "b": 4, "a": 3}
        for further, told in ((second, True), ({**second, "z": 1}, False)):
            # With one of z instead, at a lower cost, a set would meet the doubt.
            self.found = Reading(["c"], [(first, further)])
            self.assertIs(self.shown(MIXED, spans, ("s", 4)), told)
        dear = Network({**MIXED.sources(), "z": (1, 2)}, MIXED.views())
        self.assertIs(self.shown(dear, spans, ("s", 4)), True)

    def test_other_arguments(self):
        for spans, question, told in ((NOW, ("m", 1), True), (NOW, ("m", 3), False), (NOW, ("a", 2), False),
                                      ({**NOW, "a": (6, 15)}, ("m", 2), True), ({**NOW, "a": (7, 14)}, ("m", 2), False),
                                      ({**NOW, "b": (9, 9)}, ("m", 2), False)):
            self.assertIs(self.shown(PAIR, spans, question), told)
        least = Network(PAIR.sources(), {"m": (("min", ("a", "b")), 2)})
        self.assertIs(self.shown(least), reference_reading_shows(*parts(self.found), least, NOW, self.question))
        self.assertIs(self.found.shows(small(), SITUATION, ("s", 0)), False)

    def test_against_reference(self):
        chance = random.Random(63)
        told = []
        for at in range(300):
            network, spans, question = some_question(chance, 60)
            self.found = what_to_read(network, spans, question)
            enough = [chosen for chosen in reference_choices(network) if is_enough(network, spans, question, chosen)]
            self.found.chosen = chance.choice(enough[:2])
            if self.found.doubts and chance.random() < 0.2:
                self.found.doubts.remove(chance.choice(self.found.doubts))
            for doubt in self.found.doubts:
                if chance.random() < 0.3:
                    part, name = chance.choice(doubt), chance.choice(list(spans))
                    part[name] += chance.choice((-1, 1))
            told.append(self.shown(network, spans, question))
        self.assertGreater(told.count(True), 50)
        self.assertGreater(told.count(False), 50)


class Middle(unittest.TestCase):
    def test_width_twice_the_tolerance_and_one_wider(self):
        for tolerance in (0, 1, 2, 999):
            for low in (-5000, -1, 0, 7):
                wide = 2 * tolerance
                self.assertEqual(middle(ONE, {"a": (low, low + wide)}, ("a", tolerance), {}), low + tolerance)
                self.assertIsNone(middle(ONE, {"a": (low, low + wide + 1)}, ("a", tolerance), {}))

    def test_odd_widths_are_rounded_down(self):
        for low, high, expected in ((0, 1, 0), (0, 3, 1), (-1, 0, -1), (-3, 0, -2), (-2, 1, -1), (-4, -3, -4),
                                    (-1, 2, 0), (99998, 99999, 99998), (-99999, -99998, -99999)):
            found = middle(ONE, {"a": (low, high)}, ("a", 999), {})
            self.assertEqual((found, found.__class__), (expected, int))

    def test_values_that_have_been_read(self):
        for values, expected in (({}, None), ({"b": 5}, None), ({"b": 9}, None), ({"b": 10}, 12), ({"b": 11}, 12),
                                 ({"a": 6}, None), ({"a": 7}, 9), ({"a": 8}, 9), ({"a": 11}, 11), ({"a": 14}, 14),
                                 ({"a": 11, "b": 11}, 11), ({"b": 11, "a": 6}, 11)):
            self.assertEqual(middle(PAIR, NOW, ("m", 2), values), expected)
        self.assertEqual(middle(PAIR, NOW, ("m", 4), {"b": 7}), 10)

    def test_0_is_not_none(self):
        self.assertEqual(middle(ONE, {"a": (-1, 1)}, ("a", 1), {}), 0)
        self.assertEqual(middle(ONE, {"a": (-1, 1)}, ("a", 0), {"a": 0}), 0)

    def test_sources_that_are_not_below(self):
        spans = {"z": (-99999, 99999), "c": (0, 4), "b": (0, 0), "a": (-99999, 99999)}
        for values in ({}, {"z": 3}, {"a": -99999, "z": 99999}):
            self.assertEqual(middle(MIXED, spans, ("s", 2), values), 2)
            self.assertIsNone(middle(MIXED, spans, ("s", 1), values))

    def test_any_number_of_combinations(self):
        wide = (-99999, 99999)
        spans = {"z": wide, "c": wide, "b": wide, "a": wide}
        self.assertIsNone(middle(MIXED, spans, ("t", 999), {"c": 0, "b": 1}))
        self.assertEqual(middle(MIXED, spans, ("t", 0), {"c": 0, "b": 1, "a": 9}), 7)
        self.assertEqual(middle(MIXED, {**spans, "a": (0, 1998)}, ("t", 999), {"c": 0, "b": 0}), 999)

    def test_against_all_assignments(self):
        chance = random.Random(64)
        kinds = {None: 0, int: 0}
        for at in range(300):
            network, spans, question = some_question(chance, 60)
            values = {name: chance.randint(*spans[name]) for name in spans if chance.random() < 0.6}
            worths = [worth for given, worth in reference_worths(network, spans, question[0])
                      if all(given[name] == values[name] for name in given if name in values)]
            low, high = min(worths), max(worths)
            found = middle(network, spans, question, values)
            self.assertEqual(found, None if high - low > 2 * question[1] else (low + high) // 2)
            kinds[None if found is None else int] += 1
            if found is not None:
                self.assertLessEqual(max(abs(worth - found) for worth in worths), question[1])
        self.assertTrue(all(many > 50 for many in kinds.values()))

    def test_what_to_read_is_followed_by_an_answer(self):
        chance = random.Random(65)
        for at in range(150):
            network, spans, question = some_question(chance, 100)
            world = {name: [chance.randint(*spans[name])] for name in spans}
            chosen = what_to_read(network, spans, question).chosen
            answer = middle(network, spans, question, {name: world[name][0] for name in chosen})
            self.assertLessEqual(abs(answer - reference_value(network, world, question[0], 0)), question[1])


class Values(unittest.TestCase):
    chosen = ["a"]
    doubts = [({"a": 1, "b": 2}, {"a": 3, "b": 2})]

    def test_copied(self):
        given = copy.deepcopy((self.chosen, self.doubts))
        made = Reading(*given)
        self.assertEqual(frozen(parts(made)), frozen(given))
        taken = [id(inner) for inner in containers(given)]
        self.assertFalse([inner for inner in containers(parts(made)) if id(inner) in taken])
        spoil(given)
        self.assertEqual(frozen(parts(made)), frozen((self.chosen, self.doubts)))
        again = Reading(*parts(made))
        spoil(parts(again))
        self.assertEqual(frozen(parts(made)), frozen((self.chosen, self.doubts)))

    def test_one_dict_in_two_places_is_copied_twice(self):
        part = {"a": 1}
        made = Reading([], [(part, part), (part, part)])
        ids = [id(inner) for inner in containers(parts(made))]
        self.assertEqual(len(ids), len(set(ids)))

    def test_order_of_dicts_is_left(self):
        made = Reading([], [({"b": 1, "a": 2}, {"a": 1, "b": 2})])
        self.assertEqual([list(part) for part in made.doubts[0]], [["b", "a"], ["a", "b"]])

    def test_equality(self):
        made = Reading(self.chosen, self.doubts)
        self.assertIs(made == Reading(self.chosen, self.doubts), True)
        self.assertIs(made != Reading(self.chosen, self.doubts), False)
        for other in (Reading([], self.doubts), Reading(["a", "b"], self.doubts), Reading(self.chosen, []),
                      Reading(self.chosen, self.doubts * 2), Reading(self.chosen, [self.doubts[0][::-1]]),
                      Reading(self.chosen, [({"a": 1, "b": 2}, {"a": 4, "b": 2})]), None, 1, self.chosen,
                      (self.chosen, self.doubts)):
            self.assertIs(made == other, False)
            self.assertIs(made != other, True)

    def test_equality_in_any_order_of_dicts(self):
        self.assertEqual(Reading([], [({"a": 1, "b": 2}, {"a": 3, "b": 2})]),
                         Reading([], [({"b": 2, "a": 1}, {"b": 2, "a": 3})]))

    def test_equality_of_current_attributes(self):
        made, other = (Reading(self.chosen, self.doubts) for twice in (1, 2))
        other.doubts[0][1]["a"] = 9
        self.assertNotEqual(made, other)
        made.doubts = other.doubts
        self.assertEqual(made, other)
        made.chosen.append("b")
        self.assertNotEqual(made, other)


class Conventions(unittest.TestCase, Refusals):
    question = ("s", 0)
    wrong = [(0, BadNetwork, NOT_NETWORKS), (1, BadSituation, wrong_situations()), (2, BadQuery, wrong_questions())]

    def calls(self):
        """Return pairs of a function and the arguments behind the question."""
        return ((is_enough, (["b"],)), (what_to_read, ()), (Reading(["b"], []).shows, ()), (middle, ({"b": 7},)))

    def test_refusals(self):
        later = {"is_enough": [(3, BadChoice, wrong_choices())], "middle": [(3, BadValues, wrong_values())]}
        for call, more in self.calls():
            self.refuse_in_order(call, (small(), SITUATION, self.question) + more,
                                 self.wrong + later.get(call.__name__, []))
            self.assertIsNone(self.refuse(BadNetwork, call, None, SITUATION, self.question, *more).part)

    def test_limits_of_tolerances(self):
        for call, more in self.calls():
            for tolerance in (0, 999):
                call(small(), SITUATION, ("s", tolerance), *more)
            for tolerance in (-1, 1000):
                self.refuse(BadQuery, call, small(), SITUATION, ("s", tolerance), *more)

    def test_3000_combinations_and_more(self):
        three = Network({"a": (1, 1), "b": (1, 1), "c": (1, 1)}, {"m": (("min", ("a", "b", "c")), 1)})
        for network, name, spans, told in (
                (ONE, "a", {"a": (0, 2999)}, False), (ONE, "a", {"a": (0, 3000)}, True),
                (ONE, "a", {"a": (-99999, 99999)}, True), (ONE, "a", {"a": (-1500, 1500)}, True),
                (ONE, "a", {"a": (-1500, 1499)}, False),
                (three, "m", {"a": (1, 10), "b": (1, 10), "c": (1, 30)}, False),
                (three, "m", {"a": (1, 2), "b": (1, 1), "c": (0, 1500)}, True),
                (three, "m", {"a": (1, 10), "b": (0, 0), "c": (1, 300)}, False),
                (three, "m", {"a": (1, 10), "b": (0, 10), "c": (1, 28)}, True),
                (three, "b", {"a": (1, 99999), "b": (1, 3000), "c": (-99999, 99999)}, False),
                (three, "b", {"a": (0, 0), "b": (0, 3000), "c": (0, 0)}, True)):
            chosen = [list(network.sources())[0]]
            if told:
                self.refuse(TooLarge, is_enough, network, spans, (name, 1), chosen)
                self.refuse(TooLarge, what_to_read, network, spans, (name, 1))
                self.refuse(TooLarge, Reading(chosen, []).shows, network, spans, (name, 1))
                # TooLarge is documented behind BadQuery and before BadChoice.
                self.refuse(BadQuery, is_enough, network, spans, (name, -1), None)
                for choice in wrong_choices():
                    self.refuse(TooLarge, is_enough, network, spans, (name, 1), choice)
            else:
                is_enough(network, spans, (name, 1), chosen)
                self.assertIs(what_to_read(network, spans, (name, 1)).shows(network, spans, (name, 1)), True)
                Reading(chosen, []).shows(network, spans, (name, 1))

    def test_choices_and_values_that_are_accepted(self):
        for kind in (list, tuple):
            for chosen in ("", "b", "a", "ba"):
                is_enough(small(), SITUATION, self.question, kind(chosen))
        for values in ({}, {"b": 5}, {"b": 9}, {"a": -2}, {"a": -2, "b": 7}):
            middle(small(), SITUATION, self.question, values)

    def test_arguments_are_left(self):
        for spans in (SITUATION, {"a": (-2, 1), "b": (5, 9)}):
            self.leaves_arguments(lambda *given: parts(what_to_read(*given)), small(), spans, self.question)
            for chosen in ([], (), ["b"], ("b", "a")):
                self.leaves_arguments(is_enough, small(), spans, self.question, chosen)
            for values in ({}, {"b": 7}, {"a": -2, "b": 9}):
                self.leaves_arguments(middle, small(), spans, self.question, values)
            found = what_to_read(small(), spans, self.question)
            before = frozen(parts(found))
            self.leaves_arguments(found.shows, small(), spans, self.question)
            self.assertEqual(frozen(parts(found)), before)

    def test_repeated_calls(self):
        first, second = (what_to_read(PAIR, NOW, ("m", 2)) for twice in (1, 2))
        self.assertEqual(first, second)
        spoil(parts(first))
        self.assertEqual(frozen(parts(second)), frozen(parts(what_to_read(PAIR, NOW, ("m", 2)))))

    def test_later_changes_of_arguments_do_not_count(self):
        spans = dict(NOW)
        found = what_to_read(PAIR, spans, ("m", 2))
        before = frozen(parts(found))
        spans.clear()
        self.assertEqual(frozen(parts(found)), before)

    def test_names_of_arguments(self):
        expected = {is_enough: "(network, situation, question, chosen)", what_to_read: "(network, situation, question)",
                    middle: "(network, situation, question, values)", Reading: "(chosen, doubts)",
                    Reading.shows: "(self, network, situation, question)"}
        for call, told in expected.items():
            self.assertEqual(str(inspect.signature(call)), told)
            self.assertEqual(call.__module__, "fewrefresh.reading")
        self.assertIn("shows", vars(Reading))
        self.assertEqual(sorted(vars(Reading([], []))), ["chosen", "doubts"])


class Largest(unittest.TestCase):
    def test_end_soon(self):
        begun = time.process_time()
        six = Network({name: (1, cost) for name, cost in zip("abcdef", (1, 2, 1, 3, 1, 1))},
                      {"m": (("sum", ((1, "a"), (-2, "b"), (3, "c"), (1, "d"))), 1),
                       "t": (("max", ("m", "e", "f")), 1)})
        four = Network({name: (1, 1) for name in "abcd"},
                       {"t": (("sum", ((5, "a"), (-4, "b"), (3, "c"), (1, "d"))), 1)})
        one = Network({"t": (1, 1)}, {})
        for network, wide in ((six, (2, 2, 3, 3, 4, 3)), (four, (6, 6, 6, 6)), (four, (1, 1, 1, 374)), (one, (2999,))):
            spans = {source: (-more, 0) for source, more in zip(network.sources(), wide)}
            for tolerance in (0, 1, 3, 8, 20, 40, 999):
                found = what_to_read(network, spans, ("t", tolerance))
                self.assertIs(found.shows(network, spans, ("t", tolerance)), True)
                self.assertIs(is_enough(network, spans, ("t", tolerance), list(network.sources())), True)
                least, most = ranges(network, spans)["t"]
                self.assertEqual(found.chosen == [], most - least <= 2 * tolerance)
        self.assertLess(time.process_time() - begun, 60)
