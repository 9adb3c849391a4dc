"""Point [16], and what stands in fewrefresh.benches."""

import inspect
import random
import time
import unittest

from fewrefresh.benches import Bench, replay
from fewrefresh.cheapest import cheapest
from fewrefresh.errors import (BadCommand, BadName, BadNumber, BadPlan, BadQuery, BadText, NotSufficient, RefreshError,
                               TooLarge)
from fewrefresh.networks import Network
from fewrefresh.plans import delayed, trimmed
from fewrefresh.texts import network_text
from tests.cases import NOT_HORIZONS, NOT_NODES, all_refreshes, deep, small, some_case, some_query, wrong_queries
from tests.helpers import NOT_TEXT, NOT_WHOLE, STRANGERS, Refusals, containers, frozen, spoil
from tests.reference import reference_sufficient

SMALL = network_text(small())
ONE = Network({"a": (2, 1)}, {})
# What follows the name in a correct command for a task with small() and the horizon 2.
MORE = {"add": (SMALL, 2), "delete": (), "ask": ((2, "s", 4),), "refresh": ((1, "b"),), "cancel": ((2, "s"),),
        "trim": (), "delay": (), "plan": ()}
NOT_TASKS = NOT_TEXT + ("", "A", "a ", "abcdefghi", "a1", "a_b", "\xe4", "a\n", "1")


def wrong_refreshes():
    """Return things that are not refreshes for small() and the horizon 2."""
    wrong = list(STRANGERS) + [True, 1, [1, "b"], {1: "b"}, (), (1,), (1, "b", 1), ("b", 1), (0, "b"), (-1, "b"),
                               (3, "b"), (13, "b"), ((1, "b"),), [(1, "b")], "1b"]
    return wrong + [(tick, "b") for tick in NOT_WHOLE] + [(1, name) for name in NOT_NODES]


def state(bench):
    """Return all that a bench tells."""
    return [(name, bench.lookup(name)) for name in bench.names()], bench.history()


def shown(bench):
    """Return all that a bench tells, with the parts of its networks."""
    tasks = [(name, network.sources(), network.views(), horizon, queries, plan)
             for name, (network, horizon, queries, plan) in state(bench)[0]]
    return frozen([tasks, bench.history()])


def bench_with(network, horizon, queries, plan, name="one"):
    """Return a bench with one task."""
    bench = Bench()
    bench.execute(("add", name, network_text(network), horizon))
    for query in queries:
        bench.execute(("ask", name, query))
    for refresh in plan:
        bench.execute(("refresh", name, refresh))
    return bench


class Commands(unittest.TestCase):
    def setUp(self):
        self.bench = bench_with(small(), 2, [], [])

    def run_all(self, *commands):
        return [self.bench.execute(command) for command in commands]

    def test_add(self):
        self.assertIsNone(self.bench.execute(("add", "two", "source z 1 9\n", 12)))
        self.assertEqual(self.bench.names(), ["one", "two"])
        self.assertEqual(self.bench.lookup("one"), (small(), 2, [], []))
        self.assertEqual(self.bench.lookup("two"), (Network({"z": (1, 9)}, {}), 12, [], []))
        for horizon in (1, 12):
            name = "x" * horizon if horizon < 9 else "xxxxxxxx"
            self.bench.execute(("add", name, SMALL, horizon))
            self.assertEqual(self.bench.lookup(name), (small(), horizon, [], []))

    def test_delete(self):
        self.assertIsNone(self.bench.execute(("delete", "one")))
        self.assertEqual(self.bench.names(), [])
        self.assertRaises(BadName, self.bench.lookup, "one")

    def test_order_of_names(self):
        self.run_all(("add", "b", SMALL, 2), ("add", "a", SMALL, 2), ("add", "c", SMALL, 2))
        self.assertEqual(self.bench.names(), ["one", "b", "a", "c"])
        self.run_all(("delete", "b"))
        self.assertEqual(self.bench.names(), ["one", "a", "c"])
        self.run_all(("add", "b", SMALL, 2), ("ask", "one", (0, "b", 0)), ("refresh", "a", (1, "b")))
        self.assertEqual(self.bench.names(), ["one", "a", "c", "b"])

    def test_a_name_that_is_used_again(self):
        self.run_all(("ask", "one", (0, "b", 0)), ("refresh", "one", (1, "b")), ("delete", "one"),
                     ("add", "one", "source z 1 9\n", 3))
        self.assertEqual(self.bench.lookup("one"), (Network({"z": (1, 9)}, {}), 3, [], []))

    def test_ask(self):
        queries = [(2, "s", 4), (0, "b", 999), (2, "s", 4), (1, "a", 0)]
        for many, query in enumerate(queries):
            self.assertEqual(self.bench.execute(("ask", "one", query)), [])
            self.assertEqual(self.bench.lookup("one"), (small(), 2, queries[:many + 1], []))
        self.bench.execute(("refresh", "one", (1, "b")))
        self.assertEqual(self.bench.execute(("ask", "one", (2, "s", 0))), [(1, "b")])

    def test_20_and_21_queries(self):
        self.run_all(*[("ask", "one", (2, "s", tolerance)) for tolerance in range(20)])
        before = shown(self.bench)
        for query in ((2, "s", 20), (2, "s", 0), None):
            self.assertRaises(BadQuery, self.bench.execute, ("ask", "one", query))
        self.assertEqual(shown(self.bench), before)
        self.assertEqual(self.bench.lookup("one")[2], [(2, "s", tolerance) for tolerance in range(20)])

    def test_refresh_inserts_in_order(self):
        plan = []
        for refresh in ((2, "a"), (1, "s"), (2, "b"), (1, "b"), (2, "s"), (1, "a")):
            plan = [other for other in all_refreshes(small(), 2) if other in plan + [refresh]]
            self.assertEqual(self.bench.execute(("refresh", "one", refresh)), plan)
            self.assertEqual(self.bench.lookup("one"), (small(), 2, [], plan))
            self.assertRaises(BadPlan, self.bench.execute, ("refresh", "one", refresh))

    def test_cancel(self):
        self.run_all(*[("refresh", "one", refresh) for refresh in all_refreshes(small(), 2)])
        plan = all_refreshes(small(), 2)
        for refresh in ((2, "a"), (1, "b"), (2, "s"), (1, "s"), (1, "a"), (2, "b")):
            plan.remove(refresh)
            self.assertEqual(self.bench.execute(("cancel", "one", refresh)), plan)
            self.assertEqual(self.bench.lookup("one"), (small(), 2, [], plan))
            self.assertRaises(BadPlan, self.bench.execute, ("cancel", "one", refresh))
        self.assertEqual(self.bench.execute(("refresh", "one", (2, "a"))), [(2, "a")])

    def test_trim(self):
        bench = bench_with(ONE, 4, [(4, "a", 4)], [(2, "a"), (3, "a")])
        self.assertEqual(bench.execute(("trim", "one")), [(2, "a")])
        self.assertEqual(bench.lookup("one"), (ONE, 4, [(4, "a", 4)], [(2, "a")]))
        self.assertEqual(bench.execute(("trim", "one")), [(2, "a")])

    def test_delay(self):
        bench = bench_with(ONE, 4, [(4, "a", 5), (3, "a", 4)], [(2, "a")])
        self.assertEqual(bench.execute(("delay", "one")), [(3, "a")])
        self.assertEqual(bench.lookup("one"), (ONE, 4, [(4, "a", 5), (3, "a", 4)], [(3, "a")]))

    def test_plan(self):
        bench = bench_with(ONE, 4, [(2, "a", 1), (4, "a", 3)], [(1, "a"), (4, "a")])
        # What was in the plan before is not kept.
        self.assertEqual(bench.execute(("plan", "one")), [(2, "a"), (3, "a")])
        self.assertEqual(bench.lookup("one"), (ONE, 4, [(2, "a", 1), (4, "a", 3)], [(2, "a"), (3, "a")]))

    def test_tasks_are_separate(self):
        self.run_all(("add", "two", SMALL, 2), ("ask", "two", (2, "s", 4)), ("refresh", "two", (1, "b")))
        self.assertEqual(self.bench.lookup("one"), (small(), 2, [], []))
        self.assertEqual(self.bench.lookup("two"), (small(), 2, [(2, "s", 4)], [(1, "b")]))

    def test_kinds_of_values(self):
        self.run_all(("ask", "one", (2, "s", 4)), ("refresh", "one", (1, "b")))
        task = self.bench.lookup("one")
        self.assertEqual([part.__class__ for part in (task,) + task], [tuple, Network, int, list, list])
        self.assertEqual(frozen(task[1:]), frozen((2, [(2, "s", 4)], [(1, "b")])))
        self.assertEqual([part.__class__ for part in state(self.bench)[1]], [tuple] * 3)
        self.assertEqual(self.bench.names().__class__, list)
        for command in (("trim", "one"), ("delay", "one"), ("plan", "one"), ("refresh", "one", (2, "a")),
                        ("cancel", "one", (2, "a")), ("ask", "one", (2, "s", 4))):
            self.assertEqual(self.bench.execute(command).__class__, list)


class Refused(unittest.TestCase, Refusals):
    def setUp(self):
        self.bench = bench_with(small(), 2, [(2, "s", 4)], [(2, "s")])

    def refuse_command(self, error, command, bench=None):
        """Assert that a command raises this error and changes nothing."""
        bench = self.bench if bench is None else bench
        before = shown(bench)
        with self.subTest(command=command):
            found = self.refuse(error, bench.execute, command)
            self.assertEqual(shown(bench), before)
            return found

    def test_correct(self):
        for keyword, more in MORE.items():
            self.setUp()
            self.bench.execute((keyword, "two" if keyword == "add" else "one") + more)

    def test_no_command(self):
        for thing in STRANGERS + (True, 1, [], {}, (), (None,), (True, "one"), (1, "one"), ([], "one"),
                                  (["trim"], "one"), (("trim",), "one"), ({}, "one"), (b"trim", "one"), "trim",
                                  ("", "one"), ("Trim", "one"), ("trim ", "one"), ("lookup", "one"), ("names",),
                                  ("one", "trim"), ("rename", "one", "two"), {"trim": "one"}, {0: "trim", 1: "one"},
                                  Bench()):
            self.refuse_command(BadCommand, thing)

    def test_numbers_of_items(self):
        for keyword, more in MORE.items():
            good = (keyword, "two" if keyword == "add" else "one") + more
            for command in (good[:1], good[:-1], good + (None,), good + (1, 2), good + good, list(good), [good]):
                self.refuse_command(BadCommand, command)
            for many in {1, 2, 3, 4, 5} - {len(good)}:
                # BadCommand comes before all that is wrong with the items.
                self.refuse_command(BadCommand, (keyword,) + (None,) * (many - 1))

    def test_names(self):
        for keyword, more in MORE.items():
            for name in NOT_TASKS:
                self.refuse_command(BadName, (keyword, name) + more)
                self.refuse_command(BadName, (keyword, name) + (None,) * len(more))
            name = "one" if keyword == "add" else "two"
            self.refuse_command(BadName, (keyword, name) + more)
            self.refuse_command(BadName, (keyword, name) + (None,) * len(more))

    def test_names_that_were_in_use(self):
        self.bench.execute(("delete", "one"))
        for keyword, more in MORE.items():
            if keyword != "add":
                self.refuse_command(BadName, (keyword, "one") + more)
        self.bench.execute(("add", "one", SMALL, 2))
        self.refuse_command(BadName, ("add", "one", SMALL, 2))

    def test_texts(self):
        for text, row in ((None, 0), ("", 0), (SMALL + SMALL, 3), (SMALL[:-1], 2), (SMALL + "x\n", 3),
                          ("source a 21 1\n", 0), ("source a 1 1\nview s 1 min q\n", 0), ("x\n", 0)):
            self.assertEqual(self.refuse_command(BadText, ("add", "two", text, 2)).row, row)
            self.assertEqual(self.refuse_command(BadText, ("add", "two", text, None)).row, row)
        for text in NOT_TEXT:
            self.assertEqual(self.refuse_command(BadText, ("add", "two", text, 2)).row, 0)

    def test_horizons(self):
        for horizon in NOT_HORIZONS:
            self.refuse_command(BadNumber, ("add", "two", SMALL, horizon))

    def test_queries(self):
        for query in wrong_queries():
            self.refuse_command(BadQuery, ("ask", "one", query))
        self.bench.execute(("add", "two", SMALL, 12))
        self.refuse_command(BadQuery, ("ask", "one", (12, "s", 0)))
        self.assertEqual(self.bench.execute(("ask", "two", (12, "s", 0))), [])
        self.refuse_command(BadQuery, ("ask", "two", (13, "s", 0)))

    def test_refreshes(self):
        for refresh in wrong_refreshes() + [(2, "s")]:
            self.refuse_command(BadPlan, ("refresh", "one", refresh))
        for refresh in wrong_refreshes() + [(1, "s"), (2, "b")]:
            self.refuse_command(BadPlan, ("cancel", "one", refresh))
        # True is not the tick 1, although Python says that they are equal.
        self.bench.execute(("refresh", "one", (1, "b")))
        self.refuse_command(BadPlan, ("refresh", "one", (True, "b")))
        self.refuse_command(BadPlan, ("cancel", "one", (True, "b")))

    def test_without_queries(self):
        for plan in ([], [(1, "b")], all_refreshes(small(), 2)):
            bench = bench_with(small(), 2, [], plan)
            for keyword in ("trim", "delay", "plan"):
                self.refuse_command(BadQuery, (keyword, "one"), bench)
        large = bench_with(deep(), 12, [], [])
        self.refuse_command(BadQuery, ("plan", "one"), large)

    def test_not_sufficient(self):
        for plan, queries in (([], [(2, "s", 3)]), ([(2, "b")], [(2, "b", 0), (2, "s", 3)]), ([], [(2, "s", 3)] * 20)):
            bench = bench_with(small(), 2, queries, plan)
            for keyword in ("trim", "delay"):
                self.refuse_command(NotSufficient, (keyword, "one"), bench)
            bench.execute(("refresh", "one", (1, "b")))
            bench.execute(("refresh", "one", (1, "s")))
            for keyword in ("trim", "delay"):
                bench.execute((keyword, "one"))
            bench.execute(("cancel", "one", bench.lookup("one")[3][-1]))
            for keyword in ("trim", "delay"):
                self.refuse_command(NotSufficient, (keyword, "one"), bench)

    def test_too_large(self):
        six = Network({name: (1, 1) for name in "abcdef"}, {})
        for network, horizon, queries in ((six, 2, [(1, "a", 0)]), (deep(), 6, [(1, "a", 999)]),
                                          (ONE, 7, [(1, "a", 0)]), (ONE, 12, [(1, "a", 0)]),
                                          (ONE, 6, [(1, "a", 0)] * 4), (ONE, 6, [(1, "a", 0)] * 20)):
            bench = bench_with(network, horizon, queries, [(1, "a")])
            self.refuse_command(TooLarge, ("plan", "one"), bench)
        for network, horizon, queries in ((Network({name: (1, 1) for name in "abcde"}, {}), 6, [(1, "a", 0)] * 3),
                                          (ONE, 6, [(1, "a", 0)] * 3)):
            bench = bench_with(network, horizon, queries, [])
            self.assertEqual(bench.execute(("plan", "one")), [(1, "a")])

    def test_lookup(self):
        for name in NOT_TASKS + ("two",):
            self.refuse(BadName, self.bench.lookup, name)
        self.bench.execute(("delete", "one"))
        self.refuse(BadName, self.bench.lookup, "one")


class History(unittest.TestCase, Refusals):
    commands = [("add", "one", SMALL, 3), ("add", "two", "source a 2 1\n", 4), ("ask", "one", (3, "s", 4)),
                ("ask", "two", (4, "a", 3)), ("plan", "two"), ("plan", "one"), ("refresh", "one", (1, "a")),
                ("refresh", "one", (3, "b")), ("trim", "one"), ("delay", "one"), ("delete", "two"),
                ("add", "two", SMALL, 1), ("refresh", "two", (1, "s")), ("cancel", "two", (1, "s"))]

    def test_successful_commands_in_order(self):
        bench = Bench()
        self.assertEqual(state(bench), ([], []))
        for many, command in enumerate(self.commands):
            self.assertEqual(bench.history(), self.commands[:many])
            bench.execute(command)
            for wrong in (command[:1], ("add", "one", SMALL, 3), ("trim", "none"), ("ask", "one", None), None):
                self.assertRaises(RefreshError, bench.execute, wrong)
        self.assertEqual(frozen(bench.history()), frozen(self.commands))

    def test_replay(self):
        for many in range(len(self.commands) + 1):
            bench = replay(self.commands[:many])
            self.assertEqual(bench.__class__, Bench)
            again = replay(bench.history())
            self.assertEqual(shown(again), shown(bench))
            self.assertIsNot(again, bench)
            # The one does not follow the other.
            again.execute(("add", "three", SMALL, 3))
            self.assertNotIn("three", bench.names())
            self.assertEqual(bench.history(), self.commands[:many])

    def test_replay_raises_what_execute_raises(self):
        for command, error in ((("trim", "two"), BadName), (None, BadCommand), (["add", "two", SMALL, 3], BadCommand),
                               (("add", "one", SMALL, 3), BadName), (("add", "two", "", 3), BadText),
                               (("add", "two", SMALL, 13), BadNumber), (("ask", "one", (4, "s", 0)), BadQuery),
                               (("cancel", "one", (1, "b")), BadPlan), (("trim", "one"), BadQuery)):
            self.refuse(error, replay, self.commands[:1] + [command])
            self.refuse(error, replay, self.commands[:1] + [command] + self.commands[1:])
        self.refuse(NotSufficient, replay, [("add", "one", "source a 1 1\n", 1), ("ask", "one", (1, "a", 0)),
                                            ("trim", "one")])

    def test_replay_leaves_its_argument(self):
        given = list(self.commands)
        bench = replay(given)
        self.assertEqual(frozen(given), frozen(self.commands))
        given.clear()
        self.assertEqual(bench.history(), self.commands)
        bench.execute(("delete", "one"))
        self.assertEqual(given, [])
        self.assertEqual(shown(replay(tuple(self.commands))), shown(replay(self.commands)))


class Model(unittest.TestCase):
    """Many commands, right and wrong ones, on a bench and on a dict beside it."""

    def some_command(self, chance, tasks):
        name = chance.choice(["a", "b", "c", "d"] + list(tasks) * 3)
        keyword = chance.choice(["add", "delete"] + ["ask", "refresh", "cancel", "trim", "delay", "plan"] * 4)
        network, horizon = some_case(chance)[:2]
        if keyword == "add":
            return keyword, name, network_text(network), chance.choice((horizon, 3, 5, 13))
        if name in tasks:
            network, horizon = tasks[name][:2]
        if keyword == "ask":
            return keyword, name, some_query(chance, network, chance.choice((horizon, horizon + 1)), 300)
        if keyword in ("refresh", "cancel"):
            known = tasks[name][3] if name in tasks else []
            some = (chance.randint(0, horizon), chance.choice(network.names()))
            return keyword, name, chance.choice(known) if known and keyword == "cancel" else some
        return keyword, name

    def expected(self, tasks, command):
        """Change the tasks as a command that is successful does."""
        keyword, name = command[:2]
        if keyword == "delete":
            del tasks[name]
            return None
        network, horizon, queries, plan = tasks[name]
        if keyword == "ask":
            queries = queries + [command[2]]
        elif keyword == "refresh":
            plan = [refresh for refresh in all_refreshes(network, horizon) if refresh in plan + [command[2]]]
        elif keyword == "cancel":
            plan = [refresh for refresh in plan if refresh != command[2]]
        elif keyword == "plan":
            plan = cheapest(network, horizon, queries).plan
        else:
            plan = {"trim": trimmed, "delay": delayed}[keyword](network, horizon, plan, queries)
            self.assertTrue(reference_sufficient(network, plan, queries))
        tasks[name] = (network, horizon, queries, plan)
        return plan

    def test_many_commands(self):
        chance = random.Random(91)
        errors, successes = {}, {}
        for bench_at in range(12):
            bench, tasks, done = Bench(), {}, []
            for at in range(120):
                command = self.some_command(chance, tasks)
                before = shown(bench)
                try:
                    found = bench.execute(command)
                except RefreshError as error:
                    errors[error.__class__] = errors.get(error.__class__, 0) + 1
                    self.assertEqual(shown(bench), before)
                    continue
                successes[command[0]] = successes.get(command[0], 0) + 1
                done.append(command)
                if command[0] == "add":
                    self.assertIsNone(found)
                    network = bench.lookup(command[1])[0]
                    self.assertEqual(network_text(network), command[2])
                    tasks[command[1]] = (network, command[3], [], [])
                else:
                    self.assertEqual(found, self.expected(tasks, command))
                self.assertEqual(state(bench), (list(tasks.items()), done))
            self.assertEqual(shown(replay(bench.history())), shown(bench))
        self.assertEqual(set(successes), set(MORE))
        self.assertLessEqual({BadName, BadNumber, BadQuery, BadPlan, NotSufficient, TooLarge}, set(errors))


class Conventions(unittest.TestCase, Refusals):
    def setUp(self):
        self.bench = bench_with(small(), 2, [(2, "s", 4), (0, "b", 0)], [(1, "b"), (2, "s")])

    def test_everything_returned_is_new(self):
        before = shown(self.bench)
        for call in (self.bench.names, self.bench.history, lambda: self.bench.lookup("one"),
                     lambda: list(self.bench.lookup("one")[0].views().values())):
            first, second = call(), call()
            self.assertEqual(first, second)
            taken = [id(inner) for inner in containers(first)]
            self.assertFalse([inner for inner in containers(second) if id(inner) in taken])
            spoil(first)
            self.assertEqual(call(), second)
            self.assertEqual(shown(self.bench), before)

    def test_returned_plans_are_new(self):
        for command in (("ask", "one", (1, "s", 999)), ("refresh", "one", (2, "b")), ("cancel", "one", (1, "b")),
                        ("trim", "one"), ("delay", "one"), ("plan", "one")):
            plan = self.bench.execute(command)
            self.assertEqual(self.bench.lookup("one")[3], plan)
            spoil(plan)
            self.assertNotEqual(self.bench.lookup("one")[3], plan)
            plan = self.bench.lookup("one")[3]
            spoil(self.bench.lookup("one"))
            self.assertEqual(self.bench.lookup("one")[3], plan)

    def test_arguments_are_left(self):
        for keyword, more in MORE.items():
            self.setUp()
            command = (keyword, "two" if keyword == "add" else "one") + more
            if keyword == "refresh":
                command = (keyword, "one", (2, "b"))
            before = frozen(command)
            self.bench.execute(command)
            self.assertEqual(frozen(command), before)
            self.assertEqual(frozen(self.bench.history()[-1]), before)

    def test_benches_are_separate(self):
        first, second = Bench(), Bench()
        first.execute(("add", "one", SMALL, 2))
        self.assertEqual((state(second), second.names()), (([], []), []))
        second.execute(("add", "one", SMALL, 3))
        self.assertEqual(first.lookup("one")[1], 2)

    def test_repeated_calls(self):
        for again in range(3):
            self.assertEqual(shown(self.bench), shown(self.bench))

    def test_names_of_arguments(self):
        expected = {Bench: "()", Bench.execute: "(self, command)", Bench.names: "(self)", Bench.history: "(self)",
                    Bench.lookup: "(self, name)", replay: "(history)"}
        for call, told in expected.items():
            self.assertEqual(str(inspect.signature(call)), told)
            self.assertEqual(call.__module__, "fewrefresh.benches")
        for name in ("execute", "names", "lookup", "history"):
            self.assertIn(name, vars(Bench))


class Largest(unittest.TestCase):
    def test_end_soon(self):
        begun = time.process_time()
        network = Network({name: (2, 9) for name in "abcd"},
                          {"s": (("sum", ((-1, "a"), (1, "b"))), 9), "m": (("min", ("c", "d")), 9),
                           "x": (("max", ("s", "m")), 9), "t": (("sum", ((-2, "x"),)), 9)})
        queries = [(tick, "t", 20 + tick) for tick in range(3, 13)] * 2
        for plan in (all_refreshes(network, 12), all_refreshes(network, 12)[::-1]):
            bench = bench_with(network, 12, queries, plan)
            self.assertEqual(bench.lookup("one"), (network, 12, queries, all_refreshes(network, 12)))
            self.assertEqual(bench.execute(("delay", "one")), all_refreshes(network, 12))
            fewer = bench.execute(("trim", "one"))
            self.assertTrue(reference_sufficient(network, fewer, queries))
            self.assertEqual(bench.execute(("trim", "one")), fewer)
            self.assertTrue(reference_sufficient(network, bench.execute(("delay", "one")), queries))
            self.assertEqual(shown(replay(bench.history())), shown(bench))
        self.assertLess(time.process_time() - begun, 60)

    def test_many_tasks_and_commands(self):
        bench = Bench()
        names = [first + second + third for first in "abcdefgh" for second in "abcdefgh" for third in "abcdefgh"]
        for name in names:
            bench.execute(("add", name, SMALL, 12))
        self.assertEqual(bench.names(), names)
        for name in names[::2]:
            bench.execute(("delete", name))
        self.assertEqual(bench.names(), names[1::2])
        self.assertEqual(replay(bench.history()).names(), names[1::2])
