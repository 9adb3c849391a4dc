"""What several test files use: wrong things, and an own check of refusals."""

import copy

# Things that are neither integers nor containers that any function asks for.
STRANGERS = (None, "", "a", b"a", set(), frozenset(), object(), KeyError)

# Things that are not integers, whatever the limits.
NOT_WHOLE = (True, False, [], [1], (), (1,), {}, {1: 1}) + STRANGERS

# Things that are not strings.
NOT_TEXT = (None, True, False, 0, 1, -1, b"a", [], ["a"], (), ("a",), {}, {"a": 1}, set(), object())


def frozen(thing):
    """Return a form of a thing that shows the order of dicts and the kind of every item."""
    if isinstance(thing, dict):
        return ("dict", [(frozen(key), frozen(thing[key])) for key in thing])
    if isinstance(thing, (list, tuple)):
        return (thing.__class__.__name__, [frozen(item) for item in thing])
    return (thing.__class__.__name__, thing)


def containers(thing):
    """Return all lists and dicts in a thing."""
    found = [thing] if isinstance(thing, (list, dict)) else []
    inner = thing.values() if isinstance(thing, dict) else thing
    if isinstance(thing, (list, tuple, dict)):
        for item in inner:
            found.extend(containers(item))
    return found


def spoil(thing):
    """Change every list and dict in a thing."""
    for inner in containers(thing):
        if isinstance(inner, dict):
            inner["spoilt"] = 0
        else:
            inner.append("spoilt")


class Refusals:
    """Assertions for a TestCase."""

    def refuse(self, error, call, *arguments, **more):
        """Assert that a call raises exactly this error and leaves its arguments as they are."""
        before = frozen(arguments)
        with self.assertRaises(error) as caught:
            call(*arguments, **more)
        self.assertEqual(caught.exception.__class__, error)
        self.assertEqual(frozen(arguments), before)
        return caught.exception

    def refuse_in_order(self, call, good, wrong, **more):
        """Assert the errors of a call for each wrong thing in place of a good argument.

        `wrong` lists triples (position, error, things), in the order in which the errors are documented.
        """
        for at, (position, error, things) in enumerate(wrong):
            for thing in things:
                with self.subTest(call=call.__name__, position=position, thing=thing):
                    arguments = list(good)
                    arguments[position] = thing
                    self.refuse(error, call, *arguments, **more)
                    for later, other, others in wrong[at + 1:]:
                        if later != position:
                            arguments[later] = others[0]
                            self.refuse(error, call, *arguments, **more)

    def leaves_arguments(self, call, *arguments):
        """Assert that a call changes no argument, keeps none, and returns something new each time."""
        before = frozen(arguments)
        first = call(*arguments)
        self.assertEqual(frozen(arguments), before)
        expected = frozen(copy.deepcopy(first))
        given = [id(inner) for inner in containers(arguments)]
        self.assertEqual([inner for inner in containers(first) if id(inner) in given], [])
        inner_ids = [id(inner) for inner in containers(first)]
        self.assertEqual(len(inner_ids), len(set(inner_ids)), "one list or dict stands in two places")
        spoil(first)
        self.assertEqual(frozen(arguments), before)
        self.assertEqual(frozen(call(*arguments)), expected)
