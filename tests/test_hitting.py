"""The search for cheap choices in fewrefresh.hitting, against a search through all choices."""

import random
import unittest

from fewrefresh.hitting import first_cheapest, first_choice, least_total, some_choice, total, worthwhile
from tests.helpers import Refusals
from tests.reference import subsets


def some_lists(chance):
    """Return lists of items and a dict with the costs of all items."""
    costs = {letter: chance.choice((1, 1, 2, 3, 9)) for letter in chance.sample("abcdefgh", chance.randint(1, 8))}
    lists = []
    for at in range(chance.randint(0, 7)):
        many = chance.randint(1, min(len(costs), 4))
        lists.append(chance.sample(list(costs), many))
    return lists, costs


def meeting(lists, costs):
    """Return all choices that meet the lists, the cheapest ones first, those of equal cost ordered as lists."""
    order = list(costs)
    found = [choice for choice in subsets(order) if all(set(choice) & set(items) for items in lists)]
    return sorted(found, key=lambda choice: (total(costs, choice), [order.index(item) for item in choice]))


class Choices(unittest.TestCase, Refusals):
    def setUp(self):
        chance = random.Random(51)
        self.cases = [some_lists(chance) for at in range(400)]

    def test_some_choice(self):
        for lists, costs in self.cases:
            least = total(costs, meeting(lists, costs)[0])
            self.assertIsNone(some_choice(lists, costs, least - 1))
            for limit in (least, least + 1, least + 5):
                found = some_choice(lists, costs, limit)
                self.assertLessEqual(total(costs, found), limit)
                self.assertEqual(len(found), len(set(found)))
                self.assertTrue(all(set(found) & set(items) for items in lists))

    def test_first_choice(self):
        for lists, costs in self.cases:
            first = meeting(lists, costs)[0]
            self.assertEqual(first_choice(lists, costs, total(costs, first)), first)
            self.assertIsNone(first_choice(lists, costs, total(costs, first) - 1))

    def test_first_cheapest(self):
        for lists, costs in self.cases:
            first = meeting(lists, costs)[0]
            least = total(costs, first)
            for limit in {0, least // 2, max(0, least - 1), least}:
                self.assertEqual(first_cheapest(lists, costs, limit), first)

    def test_least_total(self):
        close = 0
        for lists, costs in self.cases:
            least = total(costs, meeting(lists, costs)[0])
            self.assertLessEqual(least_total(lists, costs), least)
            close += least_total(lists, costs) == least
        # A number that is always far from the least cost would make the search long.
        self.assertGreater(close, 200)

    def test_worthwhile(self):
        fewer = 0
        for lists, costs in self.cases:
            found = worthwhile(lists, costs)
            self.assertEqual(total(costs, meeting(found, costs)[0]), total(costs, meeting(lists, costs)[0]))
            for items, left in zip(lists, found):
                self.assertEqual(left, [item for item in items if item in left])
                self.assertTrue(left)
            fewer += found != lists
        self.assertGreater(fewer, 200)

    def test_items_that_stand_for_others(self):
        costs = {"a": 2, "b": 2, "c": 1, "d": 3}
        self.assertEqual(worthwhile([["a", "b"], ["b", "d"], ["c", "d"]], costs), [["b"], ["b", "d"], ["c", "d"]])
        self.assertEqual(worthwhile([["a", "c"]], costs), [["c"]])
        self.assertEqual(worthwhile([["a", "b"]], costs), [["a"]])
        self.assertEqual(worthwhile([["c", "d"], ["a", "d"]], costs), [["c", "d"], ["a", "d"]])

    def test_nothing_to_meet(self):
        self.assertEqual(some_choice([], {"a": 1}, 0), [])
        self.assertIsNone(some_choice([], {"a": 1}, -1))
        self.assertEqual(first_choice([], {"a": 1}, 0), [])
        self.assertEqual(least_total([], {"a": 1}), 0)

    def test_arguments_are_left(self):
        for lists, costs in self.cases[:50]:
            least = total(costs, meeting(lists, costs)[0])
            self.leaves_arguments(some_choice, lists, costs, least)
            self.leaves_arguments(first_choice, lists, costs, least)
            self.leaves_arguments(first_cheapest, lists, costs, 0)
            self.leaves_arguments(worthwhile, lists, costs)
