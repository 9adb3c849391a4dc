"""Cheap choices of items that meet each of several lists of items.

A choice meets a list if it contains one of its items. No list is empty. Costs are a dict from the
items, in order, to integers above 0.
"""


def total(costs, items):
    """Return the cost of a choice of items."""
    return sum([costs[item] for item in items])


def worthwhile(lists, costs):
    """Return the lists without the items for which another item can stand: it is in all their lists and no dearer."""
    marks = {}
    many = {}
    mark = 1
    for items in lists:
        for item in items:
            marks[item] = marks.get(item, 0) | mark
            many[item] = many.get(item, 0) + 1
        mark += mark
    kept = {}
    # An item that can stand for another one comes before it.
    for cost, fewness, item in sorted([(costs[key], -many[key], key) for key in marks]):
        if not any([marks[item] | marks[other] == marks[other] for other in kept]):
            kept[item] = True
    return [[item for item in items if item in kept] for items in lists]


def least_total(lists, costs):
    """Return a number that the cost of every choice that meets these lists reaches."""
    # Each list in turn collects what is left of the cost of its cheapest item from all of its items,
    # so that no item pays more than its cost and each list is paid for by the item that meets it.
    left = {item: costs[item] for items in lists for item in items}
    paid = 0
    for items in lists:
        share = min([left[item] for item in items])
        paid += share
        for item in items:
            left[item] -= share
    return paid


def some_choice(lists, costs, limit):
    """Return a choice that meets all lists and costs at most the limit, or None if there is none."""
    lists = sorted(worthwhile(lists, costs), key=len)
    if least_total(lists, costs) > limit:
        return None
    if not lists:
        return []
    passed = {}
    for cost, item in sorted([(costs[key], key) for key in lists[0]]):
        rest = [[other for other in items if other not in passed] for items in lists if item not in items]
        found = some_choice(rest, costs, limit - cost)
        if found is not None:
            return [item] + found
        # All choices with this item have been tried.
        passed[item] = True
    return None


def first_choice(lists, costs, limit):
    """Return the first choice that meets all lists and costs at most the limit, or None if there is none.

    The limit is not above the least cost of a choice that meets all lists. Choices are compared as lists,
    by the order of the items.
    """
    if some_choice(lists, costs, limit) is None:
        return None
    chosen = []
    for item in costs:
        rest = [items for items in lists if item not in items]
        # A choice of least cost contains no item without which it meets all lists, too.
        if len(rest) < len(lists) and some_choice(rest, costs, limit - costs[item]) is not None:
            chosen.append(item)
            lists = rest
            limit -= costs[item]
        else:
            lists = [[other for other in items if other != item] for items in lists]
    return chosen


def first_cheapest(lists, costs, limit):
    """Return the first of the cheapest choices that meet all lists. None of them costs less than the limit."""
    chosen = first_choice(lists, costs, limit)
    while chosen is None:
        limit += 1
        chosen = first_choice(lists, costs, limit)
    return chosen
