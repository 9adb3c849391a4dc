"""Points [9] and [10], and what stands in fewrefresh.cheapest."""

import copy
import inspect
import random
import time
import unittest

from fewrefresh.cheapest import Cheapest, cheapest
from fewrefresh.errorbounds import least_bounds
from fewrefresh.errors import BadNetwork, BadNumber, BadPlan, BadQuery, TooLarge
from fewrefresh.networks import Network
from fewrefresh.plans import is_sufficient
from fewrefresh.worlds import answers, is_world
from tests.cases import (NOT_HORIZONS, NOT_NETWORKS, all_refreshes, small, some_formula, wrong_plans,
                         wrong_query_lists)
from tests.helpers import Refusals, containers, frozen, spoil
from tests.reference import (is_cut_of, reference_cheapest, reference_error, reference_plans, reference_shows,
                             reference_sufficient)

ONE = Network({"a": (2, 1)}, {})
PAIR = Network({"b": (2, 1), "a": (1, 1)}, {"m": (("max", ("a", "b")), 3)})


def parts(found):
    """Return the attributes of a Cheapest."""
    return found.plan, found.bounds, found.cuts


def some_network(chance, most):
    """Return a network with so many nodes at most."""
    letters = chance.sample("abcde", chance.randint(1, most))
    many = chance.randint(1, len(letters))
    sources = {name: (chance.choice((0, 1, 1, 2, 3, 7)), chance.choice((1, 1, 2, 3, 9))) for name in letters[:many]}
    free, views = list(sources), {}
    for name in letters[many:]:
        views[name] = (some_formula(chance, free), chance.choice((1, 1, 2, 5)))
        free.append(name)
    return Network(sources, views)


def some_task(chance, room=9, nodes=4, horizon=6):
    """Return a network, a horizon, queries and what is to be kept, with at most so many refreshes in all."""
    network = some_network(chance, nodes)
    horizon = chance.randint(1, max(1, min(horizon, room // len(network.names()))))
    queries = []
    for at in range(chance.randint(1, 3)):
        tick, name = chance.randint(horizon // 2, horizon), chance.choice(network.names()[-2:])
        queries.append((tick, name, min(999, chance.randint(0, reference_error(network, [], (tick, name))))))
    kept = [refresh for refresh in all_refreshes(network, horizon) if chance.random() < chance.choice((0, 0.2))]
    return network, horizon, queries, kept


class Plans(unittest.TestCase):
    def test_nothing_to_refresh(self):
        for queries in ([(0, "a", 0)], [(4, "a", 8)], [(4, "a", 8), (0, "a", 0), (1, "a", 999)]):
            found = cheapest(ONE, 4, queries)
            self.assertEqual(parts(found)[::2], ([], []))
            self.assertIs(found.shows(ONE, 4, queries), True)

    def test_tolerance_equal_to_the_worst_error(self):
        for tolerance, plan in ((8, []), (7, [(1, "a")]), (6, [(1, "a")]), (5, [(2, "a")]), (1, [(4, "a")]),
                                (0, [(4, "a")])):
            self.assertEqual(cheapest(ONE, 4, [(4, "a", tolerance)]).plan, plan)

    def test_first_of_the_cheapest(self):
        # The order of the nodes is not that of the alphabet.
        network = Network({"z": (1, 2), "a": (1, 2)}, {"s": (("sum", ((1, "z"), (-1, "a"))), 1)})
        self.assertEqual(cheapest(network, 2, [(2, "s", 2)]).plan, [(2, "z"), (2, "s")])
        self.assertEqual(cheapest(network, 2, [(2, "s", 3)]).plan, [(1, "z"), (1, "s")])
        network = Network({"z": (1, 3), "a": (1, 2)}, {"s": (("sum", ((1, "z"), (-1, "a"))), 1)})
        self.assertEqual(cheapest(network, 2, [(2, "s", 2)]).plan, [(2, "a"), (2, "s")])

    def test_cost_before_order(self):
        # Refreshing the dear source twice starts earlier than the cheap one, but costs more.
        network = Network({"a": (1, 9), "b": (1, 1)}, {"s": (("sum", ((1, "a"), (1, "b"))), 1)})
        self.assertEqual(cheapest(network, 4, [(4, "s", 4)]).plan, [(4, "b"), (4, "s")])

    def test_drift_0_and_negative_factors(self):
        network = Network({"a": (0, 1), "b": (1, 5)}, {"s": (("sum", ((-5, "a"), (-2, "b"))), 1)})
        self.assertEqual(cheapest(network, 3, [(3, "s", 3)]).plan, [(2, "b"), (2, "s")])
        self.assertEqual(cheapest(network, 3, [(3, "a", 0), (2, "a", 0)]).plan, [])

    def test_nested(self):
        network = Network({"a": (3, 1), "b": (1, 1)},
                          {"m": (("min", ("a",)), 2), "x": (("max", ("m", "b")), 1), "t": (("sum", ((-2, "x"),)), 1)})
        for tolerance, plan in ((24, []), (23, [(1, "a"), (1, "m"), (1, "x"), (1, "t")]),
                                (8, [(3, "a"), (3, "m"), (3, "x"), (3, "t")]),
                                (6, [(1, "b"), (3, "a"), (3, "m"), (3, "x"), (3, "t")])):
            self.assertEqual(cheapest(network, 4, [(4, "t", tolerance)]).plan, plan)

    def test_ticks_of_several_queries(self):
        self.assertEqual(cheapest(ONE, 6, [(6, "a", 1), (3, "a", 3), (4, "a", 5)]).plan, [(2, "a"), (6, "a")])
        self.assertEqual(cheapest(ONE, 6, ((6, "a", 7), (3, "a", 3))).plan, [(3, "a")])

    def test_against_all_plans(self):
        chance = random.Random(31)
        for at in range(120):
            network, horizon, queries, kept = some_task(chance)
            found = cheapest(network, horizon, queries)
            self.assertEqual(found.plan, reference_cheapest(network, horizon, queries, []))

    def test_against_all_plans_with_what_is_kept(self):
        chance = random.Random(32)
        for at in range(120):
            network, horizon, queries, kept = some_task(chance, 10)
            found = cheapest(network, horizon, queries, kept=chance.choice((list, tuple))(kept))
            self.assertEqual(found.plan, reference_cheapest(network, horizon, queries, kept))

    def test_kept(self):
        self.assertEqual(cheapest(ONE, 4, [(4, "a", 3)], kept=[(1, "a")]).plan, [(1, "a"), (3, "a")])
        self.assertEqual(cheapest(ONE, 4, [(4, "a", 3)], kept=((4, "a"),)).plan, [(4, "a")])
        self.assertEqual(cheapest(ONE, 4, [(4, "a", 3)], kept=[]).plan, [(3, "a")])
        full = all_refreshes(PAIR, 3)
        found = cheapest(PAIR, 3, [(3, "m", 0)], kept=full)
        self.assertEqual((found.plan, found.cuts), (full, []))

    def test_kept_cost_counts_but_does_not_change_the_choice(self):
        network = Network({"a": (1, 1), "b": (1, 1)}, {"s": (("sum", ((1, "a"), (1, "b"))), 9)})
        for tolerance, plan in ((2, [(2, "a"), (2, "b"), (2, "s")]), (3, [(1, "a"), (2, "b"), (2, "s")]),
                                (1, [(2, "a"), (2, "s"), (3, "b"), (3, "s")]), (6, [(2, "s")]),
                                (0, [(2, "s"), (3, "a"), (3, "b"), (3, "s")])):
            found = cheapest(network, 3, [(3, "s", tolerance)], kept=[(2, "s")])
            self.assertEqual(found.plan, plan)
            self.assertIs(found.shows(network, 3, [(3, "s", tolerance)], kept=[(2, "s")]), True)


class Evidence(unittest.TestCase):
    def check(self, network, horizon, queries, kept):
        found = cheapest(network, horizon, queries, kept=kept)
        self.assertIs(is_sufficient(network, horizon, found.plan, queries), True)
        self.assertEqual(frozen(found.bounds), frozen([least_bounds(network, horizon, found.plan, query)
                                                       for query in queries]))
        order = all_refreshes(network, horizon)
        for refreshes, index, world in found.cuts:
            self.assertEqual(refreshes, [refresh for refresh in order if refresh in refreshes])
            self.assertFalse([refresh for refresh in refreshes if refresh in kept])
            self.assertIs(is_world(network, horizon, world), True)
            self.assertEqual(list(world), list(network.sources()))
            others = [refresh for refresh in order if refresh not in refreshes]
            error = answers(network, horizon, world, others, [queries[index]])[0][1]
            self.assertGreater(error, queries[index][2])
            self.assertIs(is_cut_of(network, horizon, queries, kept, (refreshes, index, world)), True)
        self.assertIs(found.shows(network, horizon, queries, kept=kept), True)
        return found

    def test_against_all_lists_of_refreshes(self):
        chance = random.Random(33)
        for at in range(100):
            network, horizon, queries, kept = some_task(chance)
            found = self.check(network, horizon, queries, kept)
            self.assertIs(reference_shows(parts(found), network, horizon, queries, kept), True)

    def test_larger_ones(self):
        chance = random.Random(34)
        for at in range(60):
            self.check(*some_task(chance, 30, 5))

    def test_kinds_of_values(self):
        found = cheapest(PAIR, 3, [(3, "m", 3), (2, "b", 1)])
        self.assertEqual([part.__class__ for part in parts(found)], [list, list, list])
        self.assertEqual({row.__class__ for row in found.bounds}, {dict})
        self.assertEqual({cut.__class__ for cut in found.cuts}, {tuple})
        self.assertEqual({refresh.__class__ for refresh in found.plan + found.cuts[0][0]}, {tuple})
        self.assertEqual([part.__class__ for part in found.cuts[0]], [list, int, dict])

    def test_order_of_bounds_and_worlds(self):
        found = cheapest(PAIR, 3, [(3, "m", 3)])
        self.assertEqual(list(found.bounds[0]), ["b", "a", "m"])
        self.assertEqual([list(world) for refreshes, index, world in found.cuts],
                         [["b", "a"]] * len(found.cuts))


class Shows(unittest.TestCase):
    queries = [(3, "m", 3), (2, "b", 1)]

    def setUp(self):
        self.found = cheapest(PAIR, 3, self.queries)
        self.assertEqual(self.found.plan, [(2, "b"), (2, "m")])

    def shown(self, kept=()):
        told = self.found.shows(PAIR, 3, self.queries, kept=kept)
        self.assertIs(told, reference_shows(parts(self.found), PAIR, 3, self.queries, kept))
        return told

    def test_correct(self):
        self.assertIs(self.shown(), True)

    def test_lists_or_tuples_of_queries(self):
        self.assertIs(self.found.shows(PAIR, 3, tuple(self.queries)), True)
        self.assertIs(self.found.shows(PAIR, 3, self.queries, kept=[]), True)

    def test_another_cheapest_plan(self):
        self.found.plan = [(2, "b"), (3, "m")]
        self.found.bounds = [least_bounds(PAIR, 3, self.found.plan, query) for query in self.queries]
        self.assertIs(self.shown(), True)

    def test_bounds_of_another_plan(self):
        self.found.bounds[0]["b"] = 1
        self.assertIs(self.shown(), False)

    def test_dearer_plans(self):
        for more in ((1, "b"), (1, "a"), (3, "a"), (3, "m")):
            plan = sorted([(2, "b"), (2, "m"), more], key=all_refreshes(PAIR, 3).index)
            self.assertIs(is_sufficient(PAIR, 3, plan, self.queries), True)
            self.found.plan = plan
            self.found.bounds = [least_bounds(PAIR, 3, plan, query) for query in self.queries]
            self.assertIs(self.shown(), False)

    def test_plans_that_are_not_sufficient(self):
        for plan in ([], [(2, "b")], [(2, "m")], [(1, "b"), (2, "m")], [(3, "b"), (3, "m")]):
            self.found.plan = plan
            self.assertIs(self.shown(), False)
            self.found.bounds = [least_bounds(PAIR, 3, plan, query) for query in self.queries]
            self.assertIs(self.shown(), False)

    def test_plans_that_are_none(self):
        for plan in ([(2, "m"), (2, "b")], [(2, "b"), (2, "b"), (2, "m")], [(2, "b"), (2, "m"), (4, "b")],
                     [(0, "b"), (2, "b"), (2, "m")]):
            self.found.plan = plan
            self.assertIs(self.shown(), False)

    def test_bounds_that_are_not_the_least(self):
        self.found.bounds[0].update({"a": 3, "m": 3, "b": 3})
        self.assertIs(self.shown(), True)
        self.found.bounds[1]["b"] = 1
        self.assertIs(self.shown(), True)
        self.found.bounds[0] = dict(reversed(list(self.found.bounds[0].items())))
        self.assertIs(self.shown(), True)

    def test_bounds_that_are_not_evidence(self):
        for index, row in enumerate(copy.deepcopy(self.found.bounds)):
            for name in row:
                for bound in (row[name] - 1, -1, 4):
                    self.found.bounds[index] = {**row, name: bound}
                    self.assertIs(self.shown(), False)
                self.found.bounds[index] = {node: bound for node, bound in row.items() if node != name}
                self.assertIs(self.shown(), False)
            self.found.bounds[index] = {**row, "q": 0}
            self.assertIs(self.shown(), False)
            self.found.bounds[index] = {}
            self.assertIs(self.shown(), False)
            self.found.bounds[index] = row

    def test_numbers_of_bounds(self):
        good = self.found.bounds
        for rows in (good[:1], [], good + good[:1], good + [{}], good[::-1]):
            self.found.bounds = rows
            self.assertIs(self.found.shows(PAIR, 3, self.queries), False)

    def test_cuts_removed(self):
        good = self.found.cuts
        told = []
        for at in range(len(good)):
            self.found.cuts = good[:at] + good[at + 1:]
            told.append(self.shown())
        self.assertIn(False, told)
        self.found.cuts = []
        self.assertIs(self.shown(), False)

    def test_cuts_repeated_or_in_another_order(self):
        self.found.cuts = self.found.cuts[::-1] + self.found.cuts
        self.assertIs(self.shown(), True)

    def change_cuts(self, change):
        """Yield what shows tells if one cut at a time is changed to (refreshes, index, world)."""
        good = self.found.cuts
        for at, cut in enumerate(good):
            self.found.cuts = good[:at] + [change(*copy.deepcopy(cut))] + good[at + 1:]
            yield self.shown()
            self.found.cuts = good + [change(*copy.deepcopy(cut))]
            yield self.shown()
        self.found.cuts = good

    def test_lists_of_cuts(self):
        self.assertEqual(set(self.change_cuts(lambda refreshes, index, world: ([], index, world))), {False})
        self.assertEqual(set(self.change_cuts(lambda refreshes, index, world: (refreshes * 2, index, world))), {False})
        self.assertEqual(set(self.change_cuts(lambda refreshes, index, world: (refreshes[1:], index, world))), {False})
        self.assertEqual(set(self.change_cuts(
            lambda refreshes, index, world: (refreshes + [(4, "b")], index, world))), {False})
        self.assertEqual(set(self.change_cuts(
            lambda refreshes, index, world: ([(0, "b")] + refreshes, index, world))), {False})

    def test_lists_of_cuts_in_another_order(self):
        told = list(self.change_cuts(lambda refreshes, index, world: (refreshes[::-1], index, world)))
        self.assertEqual(told, [len(cut[0]) == 1 for cut in self.found.cuts for twice in (1, 2)])
        self.assertIn(False, told)

    def test_longer_lists_of_cuts(self):
        full = all_refreshes(PAIR, 3)
        told = list(self.change_cuts(lambda refreshes, index, world: (full, index, world)))
        self.assertIn(False, told)

    def test_indices_of_cuts(self):
        for index in (2, 3, -1, -2, -3, 10 ** 30, -10 ** 30):
            told = set(self.change_cuts(lambda refreshes, old, world: (refreshes, index, world)))
            self.assertEqual(told, {False})
        told = set(self.change_cuts(lambda refreshes, index, world: (refreshes, 1 - index, world)))
        self.assertIn(False, told)

    def test_worlds_of_cuts(self):
        def changed(change):
            def change_cut(refreshes, index, world):
                change(world)
                return refreshes, index, world
            return set(self.change_cuts(change_cut))

        for name in ("a", "b"):
            self.assertEqual(changed(lambda world: world.pop(name)), {False})
            self.assertEqual(changed(lambda world: world[name].append(world[name][-1])), {False})
            self.assertEqual(changed(lambda world: world[name].pop()), {False})
            self.assertEqual(changed(lambda world: world[name].clear()), {False})
            for tick in range(4):
                def jump(world):
                    world[name][tick] += 50
                self.assertEqual(changed(jump), {False})
        self.assertEqual(changed(lambda world: world.update({"m": [0] * 4})), {False})
        self.assertEqual(changed(lambda world: world.update({"q": [0] * 4})), {False})
        self.assertEqual(changed(lambda world: world.update({"a": [0] * 4, "b": [0] * 4})), {False})
        self.assertEqual(changed(lambda world: world.clear()), {False})

    def test_worlds_in_any_order(self):
        told = set(self.change_cuts(
            lambda refreshes, index, world: (refreshes, index, {"a": world["a"], "b": world["b"]})))
        self.assertEqual(told, {True})

    def test_error_equal_to_the_tolerance_is_no_cut(self):
        found = Cheapest([(3, "a")], [{"a": 0}], [([(1, "a"), (2, "a"), (3, "a")], 0, {"a": [0, 1, 2, 3]})])
        self.assertIs(found.shows(ONE, 3, [(3, "a", 2)]), True)
        self.assertIs(found.shows(ONE, 3, [(3, "a", 3)]), False)

    def test_other_arguments(self):
        self.assertIs(self.found.shows(PAIR, 4, self.queries), False)
        self.assertIs(self.found.shows(PAIR, 3, self.queries[::-1]), False)
        self.assertIs(self.found.shows(PAIR, 3, self.queries[:1]), False)
        self.assertIs(self.found.shows(PAIR, 3, self.queries + [(0, "a", 0)]), False)
        self.assertIs(self.found.shows(PAIR, 3, [(3, "m", 4), (2, "b", 1)]), False)
        self.assertIs(self.found.shows(PAIR, 3, [(3, "m", 1), (2, "b", 1)]), False)
        dearer = Network(PAIR.sources(), {"m": (("max", ("a", "b")), 4)})
        self.assertIs(self.found.shows(dearer, 3, self.queries), True)
        other = Network({"b": (2, 1), "a": (9, 1)}, PAIR.views())
        self.assertIs(self.found.shows(other, 3, self.queries), False)

    def test_kept(self):
        kept = [(1, "a")]
        self.assertIs(self.shown(kept), False)
        self.assertIs(self.shown([(2, "b")]), False)
        self.found = cheapest(PAIR, 3, self.queries, kept=kept)
        self.assertEqual(self.found.plan, [(1, "a"), (2, "b"), (2, "m")])
        self.assertIs(self.shown(kept), True)
        self.assertIs(self.shown(tuple(kept)), True)
        self.assertIs(self.shown(), False)

    def test_cuts_with_a_refresh_that_is_kept(self):
        # It is a cut, but what it says is true of the plans without the refresh that is kept.
        cut = ([(1, "a"), (2, "a"), (3, "a")], 0, {"a": [0, 2, 4, 6]})
        found = Cheapest([(3, "a")], [{"a": 0}], [cut])
        self.assertIs(found.shows(ONE, 3, [(3, "a", 1)]), True)
        self.assertIs(found.shows(ONE, 3, [(3, "a", 1)], kept=[(3, "a")]), False)
        self.assertIs(Cheapest([(3, "a")], [{"a": 0}], []).shows(ONE, 3, [(3, "a", 1)], kept=[(3, "a")]), True)
        found = Cheapest([(1, "a"), (3, "a")], [{"a": 0}], [cut])
        self.assertIs(found.shows(ONE, 3, [(3, "a", 1)], kept=[(1, "a")]), False)
        found.cuts = [([(2, "a"), (3, "a")], 0, {"a": [0, 0, 2, 4]})]
        self.assertIs(found.shows(ONE, 3, [(3, "a", 1)], kept=[(1, "a")]), True)

    def test_against_reference(self):
        chance = random.Random(35)
        told = []
        for at in range(150):
            network, horizon, queries, kept = some_task(chance, 8)
            found = cheapest(network, horizon, queries, kept=kept)
            others = [plan for plan in reference_plans(network, horizon, kept)
                      if reference_sufficient(network, plan, queries)]
            found.plan = chance.choice(others[:3])
            found.bounds = [least_bounds(network, horizon, found.plan, query) for query in queries]
            for row in found.bounds:
                name = chance.choice(list(row))
                row[name] += chance.choice((0, 0, 0, 1, -1))
            for cut in found.cuts:
                if chance.random() < 0.1:
                    cut[0].remove(chance.choice(cut[0]))
            if found.cuts and chance.random() < 0.3:
                found.cuts.remove(chance.choice(found.cuts))
            told.append(found.shows(network, horizon, queries, kept=kept))
            self.assertIs(told[-1], reference_shows(parts(found), network, horizon, queries, kept))
        self.assertGreater(told.count(True), 20)
        self.assertGreater(told.count(False), 20)


class Values(unittest.TestCase):
    plan = [(1, "a")]
    bounds = [{"a": 2}]
    cuts = [([(1, "a")], 0, {"a": [0, 2]})]

    def test_copied(self):
        given = copy.deepcopy((self.plan, self.bounds, self.cuts))
        made = Cheapest(*given)
        self.assertEqual(frozen(parts(made)), frozen(given))
        taken = [id(inner) for inner in containers(given)]
        self.assertFalse([inner for inner in containers(parts(made)) if id(inner) in taken])
        spoil(given)
        self.assertEqual(frozen(parts(made)), frozen((self.plan, self.bounds, self.cuts)))
        given = parts(made)
        again = Cheapest(*given)
        spoil(parts(again))
        self.assertEqual(frozen(parts(made)), frozen((self.plan, self.bounds, self.cuts)))

    def test_one_list_in_two_places_is_copied_twice(self):
        refreshes, world, row = [(1, "a")], {"a": [0, 2]}, {"a": 2}
        made = Cheapest([], [row, row], [(refreshes, 0, world), (refreshes, 1, world)])
        ids = [id(inner) for inner in containers(parts(made))]
        self.assertEqual(len(ids), len(set(ids)))

    def test_order_of_dicts_is_left(self):
        made = Cheapest([], [{"b": 1, "a": 2}], [([], 0, {"b": [1], "a": [2]})])
        self.assertEqual([list(made.bounds[0]), list(made.cuts[0][2])], [["b", "a"], ["b", "a"]])

    def test_equality(self):
        made = Cheapest(self.plan, self.bounds, self.cuts)
        self.assertEqual(made, Cheapest(self.plan, self.bounds, self.cuts))
        for other in (Cheapest([], self.bounds, self.cuts), Cheapest(self.plan, [], self.cuts),
                      Cheapest(self.plan, [{"a": 3}], self.cuts), Cheapest(self.plan, self.bounds, []),
                      Cheapest(self.plan, self.bounds, [([(1, "a")], 1, {"a": [0, 2]})]),
                      Cheapest(self.plan, self.bounds, [([], 0, {"a": [0, 2]})]),
                      Cheapest(self.plan, self.bounds, [([(1, "a")], 0, {"a": [0, 1]})]),
                      None, 1, (self.plan, self.bounds, self.cuts)):
            self.assertNotEqual(made, other)
            self.assertIs(made == other, False)

    def test_equality_in_any_order_of_dicts(self):
        self.assertEqual(Cheapest([], [{"a": 1, "b": 2}], [([], 0, {"a": [1], "b": [2]})]),
                         Cheapest([], [{"b": 2, "a": 1}], [([], 0, {"b": [2], "a": [1]})]))

    def test_equality_of_current_attributes(self):
        made, other = (Cheapest(self.plan, self.bounds, self.cuts) for twice in (1, 2))
        other.cuts[0][2]["a"][1] = 1
        self.assertNotEqual(made, other)
        made.cuts = other.cuts
        self.assertEqual(made, other)


class Conventions(unittest.TestCase, Refusals):
    wrong = [(0, BadNetwork, NOT_NETWORKS), (1, BadNumber, NOT_HORIZONS), (2, BadQuery, wrong_query_lists())]
    good = (small(), 2, [(2, "s", 3)])

    def calls(self):
        return cheapest, cheapest(*self.good).shows

    def test_refusals(self):
        for call in self.calls():
            self.refuse_in_order(call, self.good, self.wrong)
            self.refuse_in_order(call, self.good, self.wrong, kept=None)
            self.assertIsNone(self.refuse(BadNetwork, call, None, 2, [(2, "s", 3)]).part)
            for plan in wrong_plans():
                with self.subTest(plan=plan):
                    self.refuse(BadPlan, call, *self.good, kept=plan)

    def large(self):
        """Return triples that are just too large, each in one respect."""
        six = Network({name: (1, 1) for name in "abcdef"}, {})
        views = Network({"a": (1, 1)}, {name: (("max", (lower,)), 1) for lower, name in zip("abcde", "bcdef")})
        return [(six, 2, [(1, "a", 0)]), (views, 2, [(1, "a", 0)]), (ONE, 7, [(1, "a", 0)]),
                (ONE, 12, [(1, "a", 0)]), (ONE, 6, [(1, "a", 0)] * 4), (ONE, 6, [(1, "a", 0)] * 20)]

    def test_too_large(self):
        for network, horizon, queries in self.large():
            for call in self.calls():
                self.refuse(TooLarge, call, network, horizon, queries)
                self.refuse(TooLarge, call, network, horizon, queries, kept=[(1, "a")])
                self.refuse(BadPlan, call, network, horizon, queries, kept=[(0, "a")])
                self.refuse(BadPlan, call, network, horizon, queries, kept=None)
                self.refuse(BadQuery, call, network, horizon, [], kept=None)
                self.refuse(BadQuery, call, network, horizon, [(horizon + 1, "a", 0)])
                self.refuse(BadNumber, call, network, 13, None, kept=None)

    def test_just_not_too_large(self):
        five = Network({name: (1, 1) for name in "abcde"}, {})
        views = Network({"a": (1, 1)}, {name: (("max", (lower,)), 1) for lower, name in zip("abcd", "bcde")})
        for network in (five, views):
            for queries in ([(6, "e", 2)], [(6, "e", 2), (3, "a", 0)], [(6, "e", 2), (3, "a", 0), (2, "c", 1)]):
                self.assertIs(cheapest(network, 6, queries).shows(network, 6, queries), True)

    def test_kept_is_checked_for_this_horizon(self):
        for call in self.calls():
            call(*self.good, kept=[(1, "b"), (2, "s")])
            self.refuse(BadPlan, call, *self.good, kept=[(3, "b")])

    def test_shows_is_refused_whatever_the_attributes(self):
        self.refuse(BadNumber, Cheapest([], [], []).shows, small(), 0, [(2, "s", 3)])
        self.refuse(TooLarge, Cheapest([], [], []).shows, ONE, 7, [(1, "a", 0)])

    def test_arguments_are_left(self):
        queries, kept = [(3, "m", 3), (2, "b", 1)], [(1, "a")]
        self.leaves_arguments(lambda *given: parts(cheapest(*given[:3], kept=given[3])), PAIR, 3, queries, kept)
        self.leaves_arguments(lambda *given: parts(cheapest(*given)), PAIR, 3, queries)
        found = cheapest(PAIR, 3, queries, kept=kept)
        before = frozen(parts(found))
        for again in range(2):
            self.leaves_arguments(lambda *given: found.shows(*given[:3], kept=given[3]), PAIR, 3, queries, kept)
            self.assertEqual(frozen(parts(found)), before)

    def test_repeated_calls(self):
        first, second = (cheapest(PAIR, 3, [(3, "m", 3)]) for again in range(2))
        self.assertEqual(first, second)
        spoil(parts(first))
        self.assertEqual(frozen(parts(second)), frozen(parts(cheapest(PAIR, 3, [(3, "m", 3)]))))

    def test_names_of_arguments(self):
        self.assertEqual(str(inspect.signature(cheapest)), "(network, horizon, queries, *, kept=())")
        self.assertEqual(str(inspect.signature(Cheapest)), "(plan, bounds, cuts)")
        self.assertEqual(str(inspect.signature(Cheapest.shows)), "(self, network, horizon, queries, *, kept=())")
        self.assertEqual({cheapest.__module__, Cheapest.__module__}, {"fewrefresh.cheapest"})
        self.assertIn("shows", vars(Cheapest))
        with self.assertRaises(TypeError):
            cheapest(PAIR, 3, [(3, "m", 3)], [])
        self.assertEqual(sorted(vars(Cheapest([], [], []))), ["bounds", "cuts", "plan"])


class Largest(unittest.TestCase):
    # Networks for which the search takes long, among those that were tried.
    tasks = (
        ({"a": (1, 1), "b": (3, 1), "c": (1, 1), "d": (1, 1)},
         {"s": (("sum", ((3, "a"), (1, "b"), (3, "c"), (3, "d"))), 1)}, [(3, "s", 29), (3, "d", 6), (6, "s", 37)]),
        ({"a": (2, 1), "b": (2, 1), "c": (3, 1), "d": (5, 1)},
         {"s": (("sum", ((4, "a"), (3, "b"), (2, "c"), (1, "d"))), 1)}, [(6, "s", 56), (3, "a", 11), (3, "s", 37)]),
        ({"a": (5, 1), "b": (5, 1), "c": (3, 2), "d": (3, 1)},
         {"s": (("sum", ((2, "a"), (1, "b"), (3, "c"), (2, "d"))), 1)}, [(3, "s", 61), (6, "s", 83), (4, "s", 54)]),
        ({"a": (4, 2), "b": (7, 2), "c": (7, 2), "d": (3, 2)},
         {"s": (("sum", ((3, "a"), (2, "b"), (2, "c"), (-5, "d"))), 2)}, [(3, "s", 74), (6, "s", 126), (2, "b", 0)]),
        ({"a": (5, 1), "b": (7, 1), "c": (2, 1), "d": (2, 1)},
         {"s": (("sum", ((2, "a"), (2, "b"), (3, "c"), (-5, "d"))), 1)}, [(3, "s", 60), (6, "s", 72), (6, "s", 168)]),
        ({"a": (2, 1), "b": (3, 1), "c": (2, 1), "d": (3, 1)},
         {"s": (("sum", ((1, "a"), (1, "b"), (1, "c"), (1, "d"))), 1)}, [(3, "s", 12), (2, "c", 77), (6, "s", 26)]),
        ({"a": (1, 2), "b": (3, 3), "c": (3, 3)},
         {"s": (("sum", ((3, "a"), (1, "b"), (1, "c"))), 1), "t": (("max", ("s",)), 1)},
         [(2, "t", 14), (6, "t", 28), (2, "t", 29)]),
        ({"a": (2, 1), "b": (2, 1), "c": (1, 1)},
         {"s": (("sum", ((1, "a"), (1, "b"))), 2), "t": (("sum", ((1, "s"), (-2, "c"))), 3)},
         [(6, "t", 16), (6, "b", 17), (4, "b", 80)]),
        ({"a": (5, 1), "b": (7, 1)},
         {"s": (("sum", ((1, "a"), (1, "b"))), 1), "t": (("max", ("s",)), 1), "u": (("min", ("t",)), 1)},
         [(6, "u", 50), (6, "u", 43), (6, "u", 43)]))

    def check(self, network, queries):
        found = cheapest(network, 6, queries)
        self.assertIs(is_sufficient(network, 6, found.plan, queries), True)
        self.assertIs(found.shows(network, 6, queries), True)
        return found

    def test_end_soon(self):
        begun = time.process_time()
        for sources, views, queries in self.tasks:
            network = Network(sources, views)
            found = self.check(network, queries)
            while found.cuts:
                found.cuts = found.cuts[:-9]
                found.shows(network, 6, queries)
            self.assertIs(found.shows(network, 6, queries), False)
        chain = Network({"a": (20, 9)}, {name: (("sum", ((-5, lower),)), 9) for lower, name in zip("abcd", "bcde")})
        apart = Network({name: (drift, 9) for name, drift in zip("abcde", (0, 1, 7, 19, 20))}, {})
        for network in (chain, apart):
            for tolerance in (0, 1, 50, 999):
                self.check(network, [(4, "e", tolerance), (5, "e", tolerance), (6, "e", tolerance)])
                self.check(network, [(6, "c", tolerance), (6, "d", tolerance), (6, "e", tolerance)])
        self.assertLess(time.process_time() - begun, 120)
