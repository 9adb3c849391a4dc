"""Point [15], and the functions of fewrefresh.texts."""

import inspect
import random
import re
import unittest

from fewrefresh import texts
from fewrefresh.errors import BadNetwork, BadNumber, BadPlan, BadQuery, BadText
from fewrefresh.networks import Network
from fewrefresh.texts import network_text, plan_text, queries_text, read_network, read_plan, read_queries
from tests.cases import (NOT_HORIZONS, NOT_NETWORKS, all_refreshes, deep, small, some_case, some_query, wrong_plans,
                         wrong_query_lists)
from tests.helpers import NOT_TEXT, Refusals, frozen

NAME, NUMBER = "[a-z]{1,8}", "(?:0|-?[1-9][0-9]{0,2})"
SOURCE = re.compile(f"source ({NAME}) ({NUMBER}) ({NUMBER})")
VIEW = re.compile(rf"view ({NAME}) ({NUMBER}) (?:(sum)((?: {NUMBER}\*{NAME})+)|(min|max)((?: {NAME})+))")
REFRESH = re.compile(f"refresh ({NUMBER}) ({NAME})")
QUERY = re.compile(f"query ({NUMBER}) ({NAME}) ({NUMBER})")

NETWORK = "source a 2 1\nsource b 1 1\nview s 2 sum 1*a -3*b\nview m 9 max s\n"
PLAN = "refresh 1 b\nrefresh 2 a\nrefresh 2 s\n"
QUERIES = "query 2 s 0\nquery 0 b 999\n"

# Words that are not numbers of at most three digits.
NOT_NUMBERS = ("", "01", "00", "007", "-0", "-00", "-01", "+1", "+0", "--1", "-", "1000", "-1000", "0001", "1.0",
               "1_0", "0x1", "1e1", "a", "1a", "a1", "1\t", "1-", "- 1", "\u0661", "\uff11", "\u00b2", "\u0967",
               "-\u0661", "1\r", "\u22121", "1\x0b", "\x1c1", "1\u2028", "None", "True")
# Words that are not names of 1 to 8 lowercase letters.
NOT_NAMES = ("", "A", "aA", "abcdefghi", "a1", "1", "a_b", "a-b", "\xe4", "\xdf", "a\r", "a\t", "\ta", "a\x0b", "*",
             "a*", "1*a", "\u0430", "a\u0301", "a,", "a\x00")


def reference_row(text, patterns):
    """Return the row of the first fault of a text, or None if all of its lines are accepted and nothing follows."""
    lines, rest = text.split("\n")[:-1], text.split("\n")[-1]
    kinds = [[at for at, pattern in enumerate(patterns) if pattern.fullmatch(line)] for line in lines]
    for row, kind in enumerate(kinds):
        if not kind or any(before > kind for before in kinds[:row]):
            return row
    return len(lines) if rest else None


def reference_network(text):
    """Return the network of a text of which all lines are accepted, or None if they form none."""
    sources, views, names = {}, {}, []
    for line in text.split("\n")[:-1]:
        names.append(line.split()[1])
        if match := SOURCE.fullmatch(line):
            sources[match[1]] = (int(match[2]), int(match[3]))
        else:
            match = VIEW.fullmatch(line)
            words = (match[4] or match[6]).split()
            parts = [(int(word.split("*")[0]), word.split("*")[1]) for word in words] if match[3] else words
            views[match[1]] = ((match[3] or match[5], tuple(parts)), int(match[2]))
    try:
        return Network(sources, views) if len(names) == len(set(names)) else None
    except BadNetwork:
        return None


def changed(chance, text):
    """Return a text with some characters, words or lines altered, removed, duplicated or moved."""
    for at in range(chance.choice((1, 1, 1, 2, 3))):
        cut = chance.randrange(len(text) + 1)
        lines = text.splitlines(True)
        kind = chance.randrange(8)
        if kind == 0:
            text = text[:cut] + chance.choice("ab*- \n0123456789+AZ\r\t\u0661") + text[cut:]
        elif kind == 1:
            text = text[:cut] + text[cut + 1:]
        elif kind == 2:
            text = text[:cut] + chance.choice("ab*- \n01239") + text[cut + 1:]
        elif kind == 3 and lines:
            lines.insert(chance.randrange(len(lines) + 1), chance.choice(lines))
            text = "".join(lines)
        elif kind == 4 and lines:
            lines.remove(chance.choice(lines))
            text = "".join(lines)
        elif kind == 5 and lines:
            lines.insert(chance.randrange(len(lines)), lines.pop(chance.randrange(len(lines))))
            text = "".join(lines)
        elif kind == 6:
            text = text[:chance.randrange(len(text) + 1)]
        else:
            words = re.split("([ \n])", text)
            words[chance.randrange(len(words))] = chance.choice(words)
            text = "".join(words)
    return text


class Rows(Refusals):
    """Assertions for a TestCase about reading small texts."""

    def refused_row(self, row, call, *arguments):
        found = self.refuse(BadText, call, *arguments)
        self.assertEqual((found.row, found.row.__class__), (row, int))

    def bad_network(self, row, text):
        with self.subTest(text=text):
            self.refused_row(row, read_network, text)

    def bad_plan(self, row, text):
        with self.subTest(text=text):
            self.refused_row(row, read_plan, small(), 3, text)

    def bad_queries(self, row, text):
        with self.subTest(text=text):
            self.refused_row(row, read_queries, small(), 3, text)


class Written(unittest.TestCase):
    def test_networks(self):
        self.assertEqual(network_text(Network({"a": (0, 9)}, {})), "source a 0 9\n")
        self.assertEqual(network_text(small()), "source b 2 1\nsource a 0 3\nview s 2 sum 1*b -3*a\n")
        self.assertEqual(network_text(deep()),
                         "source c 5 1\nsource a 20 9\nsource b 3 2\nview m 3 min b c\nview x 1 max m a\n"
                         "view t 4 sum -2*x\n")

    def test_plans(self):
        for plan in ([], ()):
            self.assertEqual(plan_text(small(), 12, plan), "")
        plan = [(1, "b"), (1, "a"), (12, "s")]
        for kind in (list, tuple):
            self.assertEqual(plan_text(small(), 12, kind(plan)), "refresh 1 b\nrefresh 1 a\nrefresh 12 s\n")

    def test_queries(self):
        queries = [(12, "s", 999), (0, "b", 0), (0, "b", 0)]
        for kind in (list, tuple):
            self.assertEqual(queries_text(small(), 12, kind(queries)), "query 12 s 999\nquery 0 b 0\nquery 0 b 0\n")


class Survive(unittest.TestCase):
    def network(self, network):
        text = network_text(network)
        self.assertEqual(read_network(text), network)
        self.assertEqual(network_text(read_network(text)), text)

    def test_bounds_of_networks(self):
        for drift in (0, 1, 9, 10, 20):
            for cost in (1, 9):
                self.network(Network({"a": (drift, cost), "abcdefgh": (20 - drift, 10 - cost)}, {}))
        for factor in (-5, -1, 1, 5):
            for cost in (1, 9):
                formula = ("sum", ((factor, "b"), (-factor, "a")))
                self.network(Network({"a": (1, 1), "b": (1, 1)}, {"s": (formula, cost)}))
        for many in range(1, 5):
            sources = {name: (1, 1) for name in "dcba"}
            for kind in ("min", "max"):
                self.network(Network(sources, {"m": ((kind, tuple("abcd"[:many])), 1)}))
            self.network(Network(sources, {"s": (("sum", tuple((many, name) for name in "bcad"[:many])), 1)}))
        self.network(Network({name: (1, 1) for name in "hgfedcba"}, {}))
        chain = {name: (("min", (lower,)), 1) for lower, name in zip("abcdefg", "bcdefgh")}
        self.network(Network({"a": (1, 1)}, chain))

    def test_names_that_are_keywords(self):
        network = Network({"source": (1, 1), "sum": (1, 1), "max": (1, 1)},
                          {"view": (("sum", ((1, "source"), (2, "sum"))), 1), "min": (("min", ("max", "view")), 1)})
        self.network(network)
        plan = [(1, "sum"), (1, "view"), (2, "source")]
        self.assertEqual(read_plan(network, 2, plan_text(network, 2, plan)), plan)

    def test_bounds_of_plans_and_queries(self):
        for horizon in (1, 2, 9, 10, 12):
            for plan in ([], [(1, "b")], [(horizon, "s")], all_refreshes(small(), horizon)):
                self.assertEqual(read_plan(small(), horizon, plan_text(small(), horizon, plan)), plan)
            for many in (1, 2, 20):
                for query in ((0, "b", 0), (horizon, "s", 999), (horizon, "a", 10)):
                    queries = [query] * many
                    self.assertEqual(read_queries(small(), horizon, queries_text(small(), horizon, queries)), queries)

    def test_many(self):
        chance = random.Random(81)
        for at in range(200):
            network, horizon, world, plan = some_case(chance)
            self.network(network)
            self.assertEqual(frozen(read_plan(network, horizon, plan_text(network, horizon, plan))), frozen(plan))
            queries = [some_query(chance, network, horizon) for many in range(chance.randint(1, 20))]
            self.assertEqual(frozen(read_queries(network, horizon, queries_text(network, horizon, queries))),
                             frozen(queries))

    def test_kinds_of_values(self):
        network = read_network(NETWORK)
        self.assertEqual(frozen([network.sources(), network.views()]),
                         frozen([{"a": (2, 1), "b": (1, 1)},
                                 {"s": (("sum", ((1, "a"), (-3, "b"))), 2), "m": (("max", ("s",)), 9)}]))
        self.assertEqual(frozen(read_plan(network, 2, PLAN)), frozen([(1, "b"), (2, "a"), (2, "s")]))
        self.assertEqual(frozen(read_queries(network, 2, QUERIES)), frozen([(2, "s", 0), (0, "b", 999)]))


class Lines(unittest.TestCase, Rows):
    def test_no_string(self):
        for thing in NOT_TEXT + (NETWORK.encode(), [NETWORK], KeyError):
            self.bad_network(0, thing)
            self.bad_plan(0, thing)
            self.bad_queries(0, thing)

    def test_empty_text(self):
        self.bad_network(0, "")
        self.bad_queries(0, "")
        self.assertEqual(read_plan(small(), 3, ""), [])

    def test_numbers(self):
        for word in NOT_NUMBERS:
            self.bad_network(1, f"source b 1 1\nsource a {word} 1\n")
            self.bad_network(1, f"source b 1 1\nsource a 1 {word}\n")
            self.bad_network(1, f"source b 1 1\nview s {word} min b\n")
            self.bad_network(1, f"source b 1 1\nview s 1 sum {word}*b\n")
            self.bad_network(1, f"source b 1 1\nview s 1 sum 1*b {word}*b\n")
            self.bad_plan(1, f"refresh 1 b\nrefresh {word} a\n")
            self.bad_queries(1, f"query 1 b 1\nquery {word} a 1\n")
            self.bad_queries(1, f"query 1 b 1\nquery 1 a {word}\n")

    def test_names(self):
        for word in NOT_NAMES:
            self.bad_network(1, f"source b 1 1\nsource {word} 1 1\n")
            self.bad_network(1, f"source b 1 1\nview {word} 1 min b\n")
            self.bad_network(1, f"source b 1 1\nview s 1 min {word}\n")
            self.bad_network(1, f"source b 1 1\nview s 1 max b {word}\n")
            self.bad_network(1, f"source b 1 1\nview s 1 sum 1*{word}\n")
            self.bad_plan(1, f"refresh 1 b\nrefresh 1 {word}\n")
            self.bad_queries(1, f"query 1 b 1\nquery 1 {word} 1\n")

    def test_keywords(self):
        for word in ("", "Source", "sources", "views", "node", "source:", "sum", "#", "sourc", "\ufeffsource", "1",
                     "refresh", "query", "plan", "network", "None"):
            self.bad_network(0, f"{word} b 1 1\n")
            self.bad_network(1, f"source b 1 1\n{word} s 1 min b\n")
        for word in ("", "Refresh", "refreshs", "source", "query", "view", "cancel"):
            self.bad_plan(1, f"refresh 1 b\n{word} 2 b\n")
        for word in ("", "Query", "queries", "source", "refresh", "ask"):
            self.bad_queries(1, f"query 1 b 1\n{word} 1 b 1\n")

    def test_kinds_of_formulas(self):
        for word in ("", "Sum", "avg", "mins", "1", "b", "sum:", "SUM"):
            self.bad_network(1, f"source b 1 1\nview s 1 {word} b\n")
            self.bad_network(1, f"source b 1 1\nview s 1 {word} 1*b\n")

    def test_terms(self):
        for word in ("b", "*b", "1*", "1", "1b", "1**b", "1*b*", "1*1*b", "b*1", "1 *b", "1* b", "(1,b)", "1*b,",
                     "+1*b"):
            self.bad_network(1, f"source b 1 1\nview s 1 sum {word}\n")
        self.bad_network(1, "source b 1 1\nview s 1 min 1*b\n")
        self.bad_network(1, "source b 1 1\nview s 1 max -1*b\n")

    def test_formula_without_inputs(self):
        for kind in ("sum", "min", "max"):
            self.bad_network(1, f"source b 1 1\nview s 1 {kind}\n")
            self.bad_network(1, f"source b 1 1\nview s 1 {kind} \n")

    def test_numbers_of_words(self):
        for line in ("source", "source b", "source b 1", "source b 1 1 1", "source b 1 1 a", "view", "view s",
                     "view s 1", "view s 1 b", "view 1 s min b", "view s min b", "view s 1 1 min b"):
            self.bad_network(1, f"source a 1 1\n{line}\n")
        for line in ("refresh", "refresh 1", "refresh a", "refresh 1 a 1", "refresh a 1", "refresh 1 a a"):
            self.bad_plan(1, f"refresh 1 b\n{line}\n")
        for line in ("query", "query 1", "query 1 a", "query 1 a 1 1", "query a 1 1", "query 1 1 a"):
            self.bad_queries(1, f"query 1 b 1\n{line}\n")

    def each(self, change):
        """Read the texts with one line changed at a time, each of which is not accepted."""
        for good, bad in ((NETWORK, self.bad_network), (PLAN, self.bad_plan), (QUERIES, self.bad_queries)):
            lines = good.split("\n")[:-1]
            for row, line in enumerate(lines):
                bad(row, "\n".join(lines[:row] + [change(line)] + lines[row + 1:]) + "\n")

    def test_blanks(self):
        self.each(lambda line: line + " ")
        self.each(lambda line: " " + line)
        self.each(lambda line: line.replace(" ", "  ", 1))
        self.each(lambda line: "  ".join(line.rsplit(" ", 1)))
        self.each(lambda line: line.replace(" ", "\t", 1))
        self.each(lambda line: line.replace(" ", "\xa0", 1))

    def test_empty_lines(self):
        self.each(lambda line: "")
        self.each(lambda line: " ")
        for text, bad in ((NETWORK, self.bad_network), (PLAN, self.bad_plan), (QUERIES, self.bad_queries)):
            bad(text.count("\n"), text + "\n")
            bad(0, "\n" + text)
            bad(0, "\n")
            bad(1, text.replace("\n", "\n\n"))

    def test_other_line_ends(self):
        for end in ("\r\n", "\r", "\x0b", "\x0c", "\x1c", "\x85", "\u2028"):
            for text, bad in ((NETWORK, self.bad_network), (PLAN, self.bad_plan), (QUERIES, self.bad_queries)):
                bad(0, text.replace("\n", end))
        self.each(lambda line: line + "\r")

    def test_missing_last_line_feed(self):
        for text, bad in ((NETWORK, self.bad_network), (PLAN, self.bad_plan), (QUERIES, self.bad_queries)):
            lines = text.split("\n")[:-1]
            for many in range(1, len(lines) + 1):
                bad(many - 1, "\n".join(lines[:many]))
                for rest in (" ", "x", "\r", lines[0], "#", "0"):
                    bad(many, "\n".join(lines[:many]) + "\n" + rest)
            bad(0, "x")
            # A line that is not accepted comes first.
            bad(1, lines[0] + "\nx\n" + lines[1])
            # What follows the last line feed comes before what the lines form.
            bad(2, lines[0] + "\n" + lines[0] + "\nx")

    def test_sources_behind_views(self):
        self.bad_network(2, "source a 1 1\nview s 1 min a\nsource b 1 1\n")
        self.bad_network(1, "view s 1 min a\nsource a 1 1\n")
        self.bad_network(3, "source a 1 1\nview s 1 min a\nview t 1 min s\nsource b 1 1\nx\n")
        self.bad_network(2, "source a 1 1\nview s 1 min a\nsource b 01 1\nx\n")
        self.bad_network(1, "source a 1 1\nx\nview s 1 min a\nsource b 1 1\n")
        # All lines are accepted, and form no network.
        self.bad_network(0, "view s 1 min a\n")

    def test_first_line_that_is_not_accepted(self):
        for text, bad in ((NETWORK, self.bad_network), (PLAN, self.bad_plan), (QUERIES, self.bad_queries)):
            lines = text.split("\n")[:-1]
            for row in range(len(lines)):
                bad(row, "\n".join(lines[:row] + ["x"] * 3 + lines[row + 1:]) + "\n")


class Wholes(unittest.TestCase, Rows):
    def test_no_network(self):
        for text in ("source a 21 1\n", "source a -1 1\n", "source a 1 0\n", "source a 1 10\n", "source a 1 -1\n",
                     "source a 999 -999\n", "source a 1 1\nview s 0 min a\n", "source a 1 1\nview s 10 min a\n",
                     "source a 1 1\nview s 1 sum 0*a\n", "source a 1 1\nview s 1 sum 6*a\n",
                     "source a 1 1\nview s 1 sum -6*a\n", "source a 1 1\nview s 1 min q\n",
                     "source a 1 1\nview s 1 min s\n", "source a 1 1\nview s 1 min a a\n",
                     "source a 1 1\nview s 1 sum 1*a 1*a\n", "view a 1 min b\n",
                     "source a 1 1\nview s 1 min a\nview t 1 max a\n",
                     "source a 1 1\nview s 1 min t\nview t 1 max a\n"):
            self.bad_network(0, text)

    def test_too_many(self):
        sources = "".join(f"source {name} 1 1\n" for name in "abcdefgh")
        self.assertEqual(len(read_network(sources).names()), 8)
        self.bad_network(0, sources + "source i 1 1\n")
        self.bad_network(0, sources + "view i 1 min a\n")
        self.bad_network(0, sources[:-2 * len("source a 1 1\n")] + "view s 1 min a b c d e\n")
        self.bad_network(0, "source a 1 1\n" * 9)

    def test_names_that_are_used_twice(self):
        for text in ("source a 1 1\nsource a 1 1\n", "source a 2 1\nsource a 1 1\n",
                     "source a 1 1\nsource b 1 1\nview s 1 min a\nview s 1 min b\n",
                     "source a 1 1\nview s 1 min a\nview s 1 min a\n",
                     "source a 1 1\nsource b 1 1\nview a 1 min b\n", "source a 1 1\nview a 1 min a\n"):
            self.bad_network(0, text)

    def test_no_plan(self):
        for text in ("refresh 0 b\n", "refresh -1 b\n", "refresh 4 b\n", "refresh 999 b\n", "refresh 1 q\n",
                     "refresh 1 b\nrefresh 1 b\n", "refresh 2 b\nrefresh 1 b\n", "refresh 1 a\nrefresh 1 b\n",
                     "refresh 1 s\nrefresh 1 b\n", "refresh 1 b\nrefresh 1 a\nrefresh 1 refresh\n"):
            self.bad_plan(0, text)

    def test_no_queries(self):
        for text in ("query -1 b 0\n", "query 4 b 0\n", "query 1 q 0\n", "query 1 b -1\n", "query 1 b -999\n",
                     "query 0 b 0\nquery 4 b 0\n", "query 0 b 0\n" * 21, "query 999 b 999\n"):
            self.bad_queries(0, text)
        self.assertEqual(read_queries(small(), 3, "query 0 b 0\n" * 20), [(0, "b", 0)] * 20)

    def test_the_horizon_counts(self):
        for horizon in (1, 3, 12):
            self.assertEqual(read_plan(small(), horizon, f"refresh {horizon} b\n"), [(horizon, "b")])
            self.refused_row(0, read_plan, small(), horizon, f"refresh {horizon + 1} b\n")
            self.assertEqual(read_queries(small(), horizon, f"query {horizon} b 0\n"), [(horizon, "b", 0)])
            self.refused_row(0, read_queries, small(), horizon, f"query {horizon + 1} b 0\n")


class Changed(unittest.TestCase, Rows):
    def test_networks(self):
        chance = random.Random(82)
        seen = []
        for at in range(3000):
            text = changed(chance, network_text(some_case(chance)[0]))
            row = reference_row(text, (SOURCE, VIEW))
            expected = reference_network(text) if row is None else None
            seen.append((row is None, expected is None))
            if expected is None:
                self.bad_network(row or 0, text)
            else:
                self.assertEqual(read_network(text), expected)
                self.assertEqual(network_text(read_network(text)), text)
        for kind in ((True, True), (True, False), (False, True)):
            self.assertGreater(seen.count(kind), 50)

    def check(self, seed, pattern, write, read, make):
        chance = random.Random(seed)
        seen = []
        for at in range(3000):
            network, horizon, world, plan = some_case(chance)
            text = changed(chance, write(network, horizon, make(chance, network, horizon, plan)))
            row = reference_row(text, (pattern,))
            expected = None
            if row is None:
                rows = [pattern.fullmatch(line).groups() for line in text.split("\n")[:-1]]
                said = [tuple(int(word) if word[-1].isdigit() else word for word in words) for words in rows]
                try:
                    write(network, horizon, said)
                    expected = said
                except (BadPlan, BadQuery):
                    pass
            seen.append((row is None, expected is None))
            if expected is None:
                with self.subTest(text=text):
                    self.refused_row(row or 0, read, network, horizon, text)
            else:
                self.assertEqual(read(network, horizon, text), expected)
        for kind in ((True, True), (True, False), (False, True)):
            self.assertGreater(seen.count(kind), 50)

    def test_plans(self):
        self.check(83, REFRESH, plan_text, read_plan, lambda chance, network, horizon, plan: plan)

    def test_queries(self):
        self.check(84, QUERY, queries_text, read_queries, lambda chance, network, horizon, plan: [
            some_query(chance, network, horizon) for many in range(chance.randint(1, 20))])


class Conventions(unittest.TestCase, Refusals):
    horizons = [(0, BadNetwork, NOT_NETWORKS), (1, BadNumber, NOT_HORIZONS)]

    def test_writing_refuses(self):
        self.refuse_in_order(network_text, (small(),), self.horizons[:1])
        self.refuse_in_order(plan_text, (small(), 2, []), self.horizons + [(2, BadPlan, wrong_plans())])
        self.refuse_in_order(queries_text, (small(), 2, [(0, "b", 0)]),
                             self.horizons + [(2, BadQuery, wrong_query_lists())])
        for call, more in ((network_text, ()), (plan_text, (2, [])), (queries_text, (2, [(0, "b", 0)]))):
            self.assertIsNone(self.refuse(BadNetwork, call, None, *more).part)

    def test_numbers_of_queries(self):
        for many in (1, 20):
            self.assertEqual(queries_text(small(), 2, [(0, "b", 0)] * many), "query 0 b 0\n" * many)
        for many in (0, 21):
            self.refuse(BadQuery, queries_text, small(), 2, [(0, "b", 0)] * many)

    def test_reading_refuses(self):
        for call, good in ((read_plan, "refresh 1 b\n"), (read_queries, "query 1 b 0\n")):
            self.refuse_in_order(call, (small(), 2, good),
                                 self.horizons + [(2, BadText, NOT_TEXT + ("x", "\n", good[:-1], good.upper()))])
            self.assertIsNone(self.refuse(BadNetwork, call, None, 2, good).part)
        self.refuse_in_order(read_network, ("source a 1 1\n",), [(0, BadText, NOT_TEXT + ("", "x", "source a 1 1"))])

    def test_an_error_of_a_network_is_not_passed_on(self):
        for text in ("source a 21 1\n", "view a 1 min b\n", "source a 1 1\nview s 1 min q\n"):
            self.assertEqual(vars(self.refuse(BadText, read_network, text)), {"row": 0})

    def test_arguments_are_left(self):
        self.leaves_arguments(network_text, small())
        for plan in ([], (), [(1, "b")], ((1, "b"), (2, "s"))):
            self.leaves_arguments(plan_text, small(), 2, plan)
        for queries in ([(1, "b", 3)], ((1, "b", 3), (0, "s", 0))):
            self.leaves_arguments(queries_text, small(), 2, queries)
        for text in ("", "refresh 1 b\n", "refresh 1 b\nrefresh 2 s\n"):
            self.leaves_arguments(read_plan, small(), 2, text)
        self.leaves_arguments(read_queries, small(), 2, "query 1 b 3\nquery 1 b 3\n")
        self.assertEqual(read_network(NETWORK), read_network(NETWORK))
        self.assertIsNot(read_network(NETWORK), read_network(NETWORK))

    def test_names_of_arguments(self):
        expected = {"network_text": "(network)", "plan_text": "(network, horizon, plan)",
                    "queries_text": "(network, horizon, queries)", "read_network": "(text)",
                    "read_plan": "(network, horizon, text)", "read_queries": "(network, horizon, text)"}
        for name, told in expected.items():
            self.assertEqual(str(inspect.signature(getattr(texts, name))), told)
            self.assertEqual(getattr(texts, name).__module__, "fewrefresh.texts")

    def test_longest(self):
        for text in ("source a 1 1\n" * 100000, "x\n" * 100000, " " * 1000000, "source a 1 1" + "0" * 100000 + "\n",
                     "source " + "a" * 1000000 + " 1 1\n"):
            self.assertEqual(self.refuse(BadText, read_network, text).row, 0)
