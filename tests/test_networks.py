"""Point [2], and the class Network."""

import unittest

from fewrefresh.errors import BadNetwork, BadQuery
from fewrefresh.networks import Network
from tests.helpers import NOT_TEXT, NOT_WHOLE, STRANGERS, Refusals, frozen, spoil

LONG = "abcdefgh"
BAD_NAMES = ("", "abcdefghi", "A", "aB", "a1", "1", "a ", " a", "a_b", "a\n", "\xe4", "\xdf", "\u0430", "a-b", None,
             True, False, 0, 1, b"a", (), ("a",), object)


def sources(many):
    """Return so many sources."""
    return {letter: (1, 1) for letter in "abcdefgh"[:many]}


def chain(many):
    """Return views of which each but the first is computed from the one before it."""
    return {f"v{letter}": (("max", (f"v{before}" if at else "a",)), 1)
            for at, (before, letter) in enumerate(zip(" abcdefgh", "abcdefgh"[:many]))}


def mixed():
    """Return a network with views over views, in which the order of the inputs is not that of the nodes."""
    return Network({"c": (0, 1), "a": (20, 9), "b": (3, 2), "z": (1, 1)},
                   {"m": (("min", ("b", "c")), 3), "y": (("max", ("z",)), 1),
                    "t": (("sum", ((-5, "a"), (5, "m"))), 4)})


class Accepted(unittest.TestCase):
    def accept(self, given, views):
        network = Network(given, views)
        self.assertEqual(frozen(network.sources()), frozen(given))
        self.assertEqual(frozen(network.views()), frozen(views))
        self.assertEqual(network.names(), list(given) + list(views))
        return network

    def test_sizes(self):
        self.accept({"a": (1, 1)}, {})
        self.accept(sources(8), {})
        for many in range(1, 8):
            self.accept({"a": (1, 1)}, chain(many))
            self.accept(sources(8 - many), chain(many))

    def test_limits_of_sources(self):
        for drift in (0, 1, 19, 20):
            for cost in (1, 2, 8, 9):
                self.accept({"a": (drift, cost)}, {})

    def test_names(self):
        for name in ("a", "z", "abcdefgh", "zzzzzzzz", "sources", "sum", "min", "source", "none"):
            self.accept({name: (1, 1)}, {})
            self.accept({"q": (1, 1)}, {name: (("min", ("q",)), 1)})

    def test_factors(self):
        for factor in (-5, -4, -1, 1, 4, 5):
            self.accept({"a": (1, 1)}, {"s": (("sum", ((factor, "a"),)), 1)})

    def test_inputs(self):
        for many in range(1, 5):
            for kind in ("min", "max"):
                self.accept(sources(4), {"m": ((kind, tuple("abcd"[:many])), 1)})
            self.accept(sources(4), {"s": (("sum", tuple((1, name) for name in "abcd"[:many])), 1)})

    def test_costs_of_views(self):
        for cost in range(1, 10):
            self.accept({"a": (1, 1)}, {"m": (("min", ("a",)), cost)})

    def test_inputs_in_any_order(self):
        self.accept({"a": (1, 1), "b": (1, 1)}, {"m": (("min", ("b", "a")), 1)})

    def test_keywords(self):
        self.assertEqual(Network(views={}, sources={"a": (2, 1)}), Network({"a": (2, 1)}, {}))


class WrongSources(unittest.TestCase, Refusals):
    def refuse_sources(self, given, views=None):
        self.assertEqual(self.refuse(BadNetwork, Network, given, {} if views is None else views).part, "sources")

    def test_not_a_dict(self):
        for thing in NOT_WHOLE + (0, 1, ["a"], [("a", (1, 1))], (("a", (1, 1)),)):
            self.refuse_sources(thing)

    def test_sizes(self):
        self.refuse_sources({})
        self.refuse_sources({f"{letter}": (1, 1) for letter in "abcdefghi"})

    def test_names(self):
        for name in BAD_NAMES:
            self.refuse_sources({name: (1, 1)})
            self.refuse_sources({"a": (1, 1), name: (1, 1)})

    def test_pairs(self):
        for pair in STRANGERS + (True, 1, [1, 1], [], (), (1,), (1, 1, 1), "11", {1: 1, 2: 2}, {0: 1, 1: 1}):
            self.refuse_sources({"a": pair})
            self.refuse_sources({"a": (1, 1), "b": pair})

    def test_drifts(self):
        for drift in NOT_WHOLE + (-1, 21, 10 ** 30, "1"):
            self.refuse_sources({"a": (drift, 1)})

    def test_costs(self):
        for cost in NOT_WHOLE + (0, -1, 10, 10 ** 30, "1"):
            self.refuse_sources({"a": (1, cost)})


class WrongViews(unittest.TestCase, Refusals):
    def refuse_view(self, part, views, given=None):
        found = self.refuse(BadNetwork, Network, sources(5) if given is None else given, views).part
        self.assertEqual(found, part)
        self.assertEqual(found.__class__, part.__class__)

    def test_not_a_dict(self):
        for thing in NOT_WHOLE + (0, 1):
            if not isinstance(thing, dict):
                self.refuse_view(None, thing)

    def test_too_many_nodes(self):
        self.refuse_view(None, chain(4))
        self.refuse_view(None, chain(8), sources(1))
        self.refuse_view(None, {"v": (("min", ("a",)), 1)}, sources(8))
        self.refuse_view(None, {name: None for name in ("a", "b", True, 4)})

    def test_names(self):
        for name in BAD_NAMES:
            self.refuse_view(name, {name: (("min", ("a",)), 1)})
            self.refuse_view(name, {"m": (("min", ("a",)), 1), name: (("min", ("b",)), 1)})

    def test_pairs(self):
        good = ("min", ("a",))
        for pair in STRANGERS + (True, 1, [good, 1], (), (good,), (good, 1, 1), good, {0: good, 1: 1}):
            self.refuse_view("m", {"m": pair})

    def test_costs(self):
        for cost in NOT_WHOLE + (0, -1, 10, 10 ** 30):
            self.refuse_view("m", {"m": (("min", ("a",)), cost)})

    def test_formulas(self):
        for formula in STRANGERS + (True, 1, ["min", ("a",)], (), ("min",), ("min", ("a",), 1), ("min", "a"),
                                    {0: "min", 1: ("a",)}):
            self.refuse_view("m", {"m": (formula, 1)})

    def test_kinds(self):
        for kind in NOT_TEXT + ("", "Sum", "sums", "avg", "Min", "min ", "in", "u", b"min", ("sum",), ["sum"]):
            self.refuse_view("m", {"m": ((kind, ("a",)), 1)})
            self.refuse_view("m", {"m": ((kind, ((1, "a"),)), 1)})

    def test_inputs(self):
        for kind in ("min", "max"):
            for inputs in STRANGERS + (True, 1, (), ["a"], {"a": True}, ("a", "b", "c", "d", "e"), ("a", "a"),
                                       ("m",), ("q",), ((1, "a"),)):
                self.refuse_view("m", {"m": ((kind, inputs), 1)})

    def test_names_of_inputs(self):
        for name in BAD_NAMES + ([], ["a"], {}, {"a"}, "q", "m", "n"):
            self.refuse_view("m", {"m": (("min", (name,)), 1), "n": (("min", ("b",)), 1)})
            self.refuse_view("m", {"m": (("max", ("a", name)), 1), "n": (("min", ("b",)), 1)})
            self.refuse_view("m", {"m": (("sum", ((1, name),)), 1), "n": (("min", ("b",)), 1)})

    def test_terms(self):
        for terms in STRANGERS + (True, 1, (), [(1, "a")], {1: "a"}, ("a",), ("a", "b"), (1, "a"), ([1, "a"],),
                                  ((1,),), ((1, "a", 1),), ((1, "a"), None), (("a", 1),), ((1, "a"), (2, "a")),
                                  tuple((1, name) for name in "abcde"), ({0: 1, 1: "a"},)):
            self.refuse_view("s", {"s": (("sum", terms), 1)})

    def test_factors(self):
        for factor in NOT_WHOLE + (0, -6, 6, 10 ** 30, -10 ** 30):
            self.refuse_view("s", {"s": (("sum", ((factor, "a"),)), 1)})
            self.refuse_view("s", {"s": (("sum", ((1, "b"), (factor, "a"))), 1)})

    def test_name_is_used(self):
        self.refuse_view("a", {"a": (("min", ("b",)), 1)})
        self.refuse_view("b", {"m": (("min", ("a",)), 1), "b": (("min", ("c",)), 1)})

    def test_input_is_used(self):
        self.refuse_view("n", {"m": (("min", ("a", "b")), 1), "n": (("max", ("c", "b")), 1)})
        self.refuse_view("n", {"m": (("min", ("a", "b")), 1), "n": (("sum", ((1, "m"), (1, "a"))), 1)})
        self.refuse_view("n", {"m": (("min", ("a",)), 1), "n": (("sum", ((1, "m"), (1, "m"))), 1)})

    def test_later_view_is_no_input(self):
        self.refuse_view("n", {"n": (("min", ("m",)), 1), "m": (("min", ("a",)), 1)})

    def test_first_wrong_view(self):
        self.refuse_view("n", {"m": (("min", ("a",)), 1), "n": (("min", ("a",)), 1), "o": None})
        self.refuse_view("n", {"n": (("min", ("b", "q")), 1), "a": (("min", ("c",)), 1)})
        self.refuse_view(5, {5: (("min", ("a",)), 1), "m": None})


class WrongTogether(unittest.TestCase, Refusals):
    def test_sources_come_first(self):
        for views in (None, chain(8), {"v": None}, {"a": (("min", ("b",)), 1)}, [], 3):
            self.assertEqual(self.refuse(BadNetwork, Network, {"a": (True, 1)}, views).part, "sources")
            self.assertEqual(self.refuse(BadNetwork, Network, None, views).part, "sources")

    def test_count_comes_before_views(self):
        views = chain(4)
        views["va"] = None
        self.assertEqual(self.refuse(BadNetwork, Network, sources(5), views).part, None)


class Parts(unittest.TestCase, Refusals):
    def test_below(self):
        network = mixed()
        expected = {"c": [], "a": [], "b": [], "z": [], "m": ["c", "b"], "y": ["z"], "t": ["c", "a", "b", "m"]}
        self.assertEqual(network.names(), ["c", "a", "b", "z", "m", "y", "t"])
        for name, below in expected.items():
            self.assertEqual(network.below(name), below)

    def test_below_in_a_chain(self):
        network = Network({"a": (1, 1)}, chain(7))
        for at, name in enumerate(network.names()):
            self.assertEqual(network.below(name), network.names()[:at])

    def test_below_refuses(self):
        network = mixed()
        for name in NOT_TEXT + ("", "q", "A", "mm", "c ", "sum", LONG):
            self.refuse(BadQuery, network.below, name)

    def test_everything_returned_is_new(self):
        network = mixed()
        for call in (network.sources, network.views, network.names):
            before = frozen(call())
            self.assertIsNot(call(), call())
            spoil(call())
            self.assertEqual(frozen(call()), before)
        before = network.below("t")
        spoil(network.below("t"))
        self.assertEqual(network.below("t"), before)
        self.assertEqual(network, mixed())

    def test_arguments_are_neither_changed_nor_kept(self):
        given, views = mixed().sources(), mixed().views()
        before = frozen([given, views])
        network = Network(given, views)
        self.assertEqual(frozen([given, views]), before)
        spoil([given, views])
        del given["a"]
        views["m"] = (("max", ("b", "c")), 3)
        self.assertEqual(network, mixed())
        self.assertEqual(frozen([network.sources(), network.views()]), before)

    def test_methods_stand_in_the_class(self):
        for name in ("__init__", "__eq__", "sources", "views", "names", "below"):
            self.assertIn(name, vars(Network))
        self.assertEqual(Network.__module__, "fewrefresh.networks")


class Equality(unittest.TestCase):
    def differ(self, left, right):
        self.assertFalse(left == right)
        self.assertTrue(left != right)

    def test_equal(self):
        self.assertTrue(mixed() == mixed())
        self.assertFalse(mixed() != mixed())

    def test_order_of_sources(self):
        self.differ(Network({"a": (1, 1), "b": (1, 1)}, {}), Network({"b": (1, 1), "a": (1, 1)}, {}))

    def test_order_of_views(self):
        first, second = (("min", ("a",)), 1), (("min", ("b",)), 1)
        self.differ(Network(sources(2), {"v": first, "w": second}), Network(sources(2), {"w": second, "v": first}))

    def test_order_of_inputs(self):
        self.differ(Network(sources(2), {"v": (("min", ("a", "b")), 1)}),
                    Network(sources(2), {"v": (("min", ("b", "a")), 1)}))

    def test_each_part_counts(self):
        plain = Network({"a": (1, 1)}, {"v": (("sum", ((1, "a"),)), 1)})
        for given, views in (({"a": (2, 1)}, plain.views()), ({"a": (1, 2)}, plain.views()), (plain.sources(), {}),
                             (plain.sources(), {"w": (("sum", ((1, "a"),)), 1)}),
                             (plain.sources(), {"v": (("sum", ((1, "a"),)), 2)}),
                             (plain.sources(), {"v": (("sum", ((2, "a"),)), 1)}),
                             (plain.sources(), {"v": (("min", ("a",)), 1)})):
            self.differ(plain, Network(given, views))

    def test_other_kinds(self):
        for thing in (None, 1, "a", (), mixed().sources(), [mixed()]):
            self.differ(mixed(), thing)
