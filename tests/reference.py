"""What the document says, in other words than those of the program: slow, and without checks."""

import itertools


def reference_value(network, world, name, tick):
    """Return the value of a node, by the words of [2] and [3]."""
    if name in network.sources():
        return world[name][tick]
    kind, parts = network.views()[name][0]
    if kind == "sum":
        return sum(factor * reference_value(network, world, below, tick) for factor, below in parts)
    return {"min": min, "max": max}[kind](reference_value(network, world, below, tick) for below in parts)


def reference_cache(network, world, plan, name, tick, before=99):
    """Return a cache after the refreshes of a tick of nodes before a place in the order, by the words of [4]."""
    order = network.names()
    done = [when for when, node in plan
            if node == name and (when < tick or when == tick and order.index(node) < before)]
    if not done:
        return reference_value(network, world, name, 0)
    if name in network.sources():
        return world[name][done[-1]]
    kind, parts = network.views()[name][0]
    names = [part[1] for part in parts] if kind == "sum" else parts
    held = {below: reference_cache(network, world, plan, below, done[-1], order.index(name)) for below in names}
    if kind == "sum":
        return sum(factor * held[below] for factor, below in parts)
    return {"min": min, "max": max}[kind](held.values())


def reference_stamps(network, plan, name, tick):
    """Return the stamps of the sources for a node after a tick, by the words of [6]: each refresh in turn."""
    sources, views = network.sources(), network.views()
    below = {node: [node] if node in sources else [lower for lower in network.below(node) if lower in sources]
             for node in network.names()}
    stamps = {node: {source: 0 for source in below[node]} for node in network.names()}
    for when, node in sorted(plan, key=lambda refresh: (refresh[0], network.names().index(refresh[1]))):
        if when > tick:
            continue
        if node in sources:
            stamps[node] = {node: when}
        else:
            for lower in reference_inputs(views[node][0]):
                stamps[node].update(stamps[lower])
    return stamps[name]


def reference_inputs(formula):
    """Return the inputs of a formula."""
    return [part[1] for part in formula[1]] if formula[0] == "sum" else list(formula[1])


def reference_ages(network, plan, query):
    """Return the ages of the sources for a query, by the words of [6]."""
    tick, name = query[:2]
    stamps = reference_stamps(network, plan, name, tick)
    return {source: tick - stamps[source] for source in network.sources() if source in stamps}


def reference_worst(network, ages, name):
    """Return the worst error of a node for the ages of its sources, by the words of [7]."""
    if name in network.sources():
        return network.sources()[name][0] * ages[name]
    kind, parts = network.views()[name][0]
    if kind == "sum":
        return sum(abs(factor) * reference_worst(network, ages, lower) for factor, lower in parts)
    return max(reference_worst(network, ages, lower) for lower in parts)


def reference_error(network, plan, query):
    """Return the worst error of a query."""
    return reference_worst(network, reference_ages(network, plan, query), query[1])


def reference_sufficient(network, plan, queries):
    """Return whether a plan is sufficient."""
    return all(reference_error(network, plan, query) <= query[2] for query in queries)


def reference_cost(network, plan):
    """Return the cost of a plan."""
    rows = {**network.sources(), **network.views()}
    return sum(rows[name][1] for tick, name in plan)


def reference_trimmed(network, plan, queries):
    """Return the plan from which each refresh, from the last to the first one, is removed if it is redundant."""
    plan = list(plan)
    for at in range(len(plan) - 1, -1, -1):
        fewer = plan[:at] + plan[at + 1:]
        if reference_sufficient(network, fewer, queries):
            plan = fewer
    return plan


def reference_delayed(network, horizon, plan, queries):
    """Return the plan of which each refresh, from the last to the first one, is moved as far as possible."""
    order = network.names()
    current = list(plan)
    for tick, name in reversed(list(plan)):
        others = [refresh for refresh in current if refresh != (tick, name)]
        free = [later for later in range(tick + 1, horizon + 1) if (later, name) not in others]
        possible = [later for later in free if reference_sufficient(network, others + [(later, name)], queries)]
        current = others + [(max(possible, default=tick), name)]
    return sorted(current, key=lambda refresh: (refresh[0], order.index(refresh[1])))


def reference_refreshes(network, horizon):
    """Return all refreshes, ordered like a plan."""
    return [(tick, name) for tick in range(1, horizon + 1) for name in network.names()]


def subsets(items):
    """Return all sublists of a list."""
    found = [[]]
    for item in items:
        found += [part + [item] for part in found]
    return found


def reference_plans(network, horizon, kept):
    """Return all plans that contain what is kept, the cheapest ones first, those of equal cost ordered as lists."""
    order = reference_refreshes(network, horizon)
    free = [refresh for refresh in order if refresh not in kept]
    plans = [[refresh for refresh in order if refresh in kept or refresh in chosen] for chosen in subsets(free)]
    names = network.names()
    return sorted(plans, key=lambda plan: (reference_cost(network, plan),
                                           [(tick, names.index(name)) for tick, name in plan]))


def reference_cheapest(network, horizon, queries, kept):
    """Return the first of the cheapest sufficient plans, by a search through all plans."""
    for plan in reference_plans(network, horizon, kept):
        if reference_sufficient(network, plan, queries):
            return plan


def is_world_of(network, horizon, world):
    """Return whether a dict from strings to lists of integers is a world for the horizon."""
    if set(world) != set(network.sources()) or any(len(course) != horizon + 1 for course in world.values()):
        return False
    return all(abs(later - sooner) <= network.sources()[name][0]
               for name, course in world.items() for sooner, later in zip(course, course[1:]))


def is_cut_of(network, horizon, queries, kept, cut):
    """Return whether a triple is a cut, by the words of [9] and [10]."""
    refreshes, index, world = cut
    order = reference_refreshes(network, horizon)
    if refreshes != [refresh for refresh in order if refresh in refreshes] or set(refreshes) & set(kept):
        return False
    if not 0 <= index < len(queries) or not is_world_of(network, horizon, world):
        return False
    tick, name, tolerance = queries[index]
    others = [refresh for refresh in order if refresh not in refreshes]
    answer = reference_cache(network, world, others, name, tick)
    return abs(answer - reference_value(network, world, name, tick)) > tolerance


def is_evidence(network, plan, query, bounds):
    """Return whether a dict from strings to integers is evidence, by the words of [8]."""
    tick, name, tolerance = query
    if set(bounds) != set(network.below(name)) | {name} or bounds[name] > tolerance:
        return False
    ages = reference_ages(network, plan, query)
    for node in bounds:
        if node in network.sources():
            least = network.sources()[node][0] * ages[node]
        elif network.views()[node][0][0] == "sum":
            least = sum(abs(factor) * bounds[lower] for factor, lower in network.views()[node][0][1])
        else:
            least = max(bounds[lower] for lower in network.views()[node][0][1])
        if bounds[node] < least:
            return False
    return True


def reference_shows(parts, network, horizon, queries, kept):
    """Return whether a plan, bounds and cuts are as in [10], by a search through all lists of refreshes."""
    plan, bounds, cuts = parts
    order = reference_refreshes(network, horizon)
    if plan != [refresh for refresh in order if refresh in plan] or set(kept) - set(plan):
        return False
    if len(bounds) != len(queries):
        return False
    if not all(is_evidence(network, plan, query, row) for query, row in zip(queries, bounds)):
        return False
    if not all(is_cut_of(network, horizon, queries, kept, cut) for cut in cuts):
        return False
    spent = reference_cost(network, plan)
    return all(reference_cost(network, chosen) + reference_cost(network, kept) >= spent
               for chosen in subsets([refresh for refresh in order if refresh not in kept])
               if all(set(chosen) & set(refreshes) for refreshes, index, world in cuts))


def reference_sources(network, name):
    """Return the sources of a question about a node."""
    return [source for source in network.sources() if source == name or source in network.below(name)]


def reference_worths(network, spans, name):
    """Return pairs of an assignment of the sources of a question and the value of its node, for all of them."""
    sources = reference_sources(network, name)
    pairs = []
    for worths in itertools.product(*[range(spans[source][0], spans[source][1] + 1) for source in sources]):
        given = dict(zip(sources, worths))
        pairs.append((given, reference_value(network, {source: [given[source]] for source in given}, name, 0)))
    return pairs


def reference_enough(worths, tolerance, chosen):
    """Return whether chosen sources are enough, from all assignments and the values of the node with them."""
    groups = {}
    for given, worth in worths:
        groups.setdefault(tuple(given[source] for source in chosen if source in given), []).append(worth)
    return all(max(group) - min(group) <= 2 * tolerance for group in groups.values())


def reference_choices(network):
    """Return all sets of sources, the cheapest ones first, those of equal cost ordered as lists."""
    order = list(network.sources())
    return sorted(subsets(order), key=lambda chosen: (sum(network.sources()[name][1] for name in chosen),
                                                      [order.index(name) for name in chosen]))


def is_doubt_of(network, spans, question, doubt):
    """Return whether a pair of dicts from strings to integers is a doubt, by the words of [13]."""
    worths = []
    for part in doubt:
        if set(part) != set(network.sources()):
            return False
        if not all(spans[name][0] <= part[name] <= spans[name][1] for name in part):
            return False
        worths.append(reference_value(network, {name: [part[name]] for name in part}, question[0], 0))
    return abs(worths[0] - worths[1]) > 2 * question[1]


def reference_reading_shows(chosen, doubts, network, spans, question):
    """Return whether chosen sources and doubts are as in [13], by a search through all sets of sources."""
    if not reference_enough(reference_worths(network, spans, question[0]), question[1], chosen):
        return False
    if not all(is_doubt_of(network, spans, question, doubt) for doubt in doubts):
        return False
    costs = {name: pair[1] for name, pair in network.sources().items()}
    spent = sum(costs[name] for name in chosen)
    return all(sum(costs[name] for name in other) >= spent for other in subsets(list(costs))
               if all(any(first[name] != second[name] for name in other) for first, second in doubts))


def reference_lasts(network, horizon, plan, query):
    """Return the greatest tick up to which a query holds, or None, by the words of [14]."""
    tick, name, tolerance = query
    held = [last for last in range(tick, horizon + 1)
            if all(reference_error(network, plan, (t, name)) <= tolerance for t in range(tick, last + 1))]
    return max(held, default=None)


def reference_weighing(network, plan, query):
    """Return the sources that weigh, by the words of [14]."""
    ages = reference_ages(network, plan, query)
    error = reference_worst(network, ages, query[1])
    return [source for source in ages
            if reference_worst(network, {**ages, source: ages[source] + 1}, query[1]) > error]
