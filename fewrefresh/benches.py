"""A bench: tasks by name, and commands that change them.

A task is a tuple of a network, a horizon, a list of queries and a plan. Its lists are never changed: a
command makes new ones.
"""

from fewrefresh.basics import is_name
from fewrefresh.cheapest import cheapest
from fewrefresh.checks import check_horizon, check_queries, is_refresh
from fewrefresh.errors import BadCommand, BadName, BadPlan
from fewrefresh.plans import delayed, ordered, trimmed, without
from fewrefresh.texts import read_network


def added(text, horizon):
    """Return the task of the network of a text, without queries and refreshes."""
    network = read_network(text)
    check_horizon(horizon)
    return network, horizon, [], []


def asked(task, query):
    """Return a task with one more query."""
    network, horizon, queries, plan = task
    more = queries + [query]
    check_queries(network, horizon, more)
    return network, horizon, more, plan


def refreshed(task, refresh):
    """Return a task with one more refresh."""
    network, horizon, queries, plan = task
    if not is_refresh(network, horizon, refresh) or refresh in plan:
        raise BadPlan("not a refresh, or one that the plan contains already")
    return network, horizon, queries, ordered(network, horizon, plan + [refresh])


def cancelled(task, refresh):
    """Return a task without a refresh."""
    network, horizon, queries, plan = task
    if not is_refresh(network, horizon, refresh) or refresh not in plan:
        raise BadPlan("not a refresh, or one that the plan does not contain")
    return network, horizon, queries, without(plan, refresh)


def trimmed_task(task):
    """Return a task with its plan trimmed."""
    network, horizon, queries, plan = task
    return network, horizon, queries, trimmed(network, horizon, plan, queries)


def delayed_task(task):
    """Return a task with its plan delayed."""
    network, horizon, queries, plan = task
    return network, horizon, queries, delayed(network, horizon, plan, queries)


def planned(task):
    """Return a task with a cheapest plan."""
    network, horizon, queries, plan = task
    return network, horizon, queries, cheapest(network, horizon, queries).plan


ITEM_COUNTS = {"add": 4, "delete": 2, "ask": 3, "refresh": 3, "cancel": 3, "trim": 2, "delay": 2, "plan": 2}

CHANGES = {"ask": asked, "refresh": refreshed, "cancel": cancelled, "trim": trimmed_task, "delay": delayed_task,
           "plan": planned}


def check_command(command):
    """Raise BadCommand if a thing is not a tuple with a keyword and the right number of items."""
    if not isinstance(command, tuple) or not command or not isinstance(command[0], str):
        raise BadCommand("not a tuple that begins with a keyword")
    if ITEM_COUNTS.get(command[0], 0) != len(command):
        raise BadCommand("not a keyword, or not its number of items")


class Bench:
    """Tasks by name, in the order in which they were added, and the commands that led to them."""

    def __init__(self):
        self.tasks = {}
        self.commands = []

    def check_name(self, name, used):
        """Raise BadName if a thing is not a name, or not in use, or not new, as asked."""
        if not is_name(name) or (name in self.tasks) != used:
            raise BadName("not a name, or not new or not in use as required")

    def execute(self, command):
        """Execute a command and return the plan afterwards, for add and delete None."""
        check_command(command)
        keyword, name, *more = command
        self.check_name(name, keyword != "add")
        plan = None
        if keyword == "add":
            self.tasks[name] = added(*more)
        elif keyword == "delete":
            del self.tasks[name]
        else:
            change = CHANGES[keyword]
            self.tasks[name] = change(self.tasks[name], *more)
            plan = list(self.tasks[name][3])
        self.commands.append(command)
        return plan

    def names(self):
        """Return the list of the names of the tasks, in order."""
        return list(self.tasks)

    def lookup(self, name):
        """Return the tuple of the network, the horizon, the queries and the plan of a task."""
        self.check_name(name, True)
        network, horizon, queries, plan = self.tasks[name]
        return network, horizon, list(queries), list(plan)

    def history(self):
        """Return the list of all successful commands, in order."""
        return list(self.commands)


def replay(history):
    """Return a new bench on which commands have been executed."""
    bench = Bench()
    for command in history:
        bench.execute(command)
    return bench
