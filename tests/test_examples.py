"""The examples of the document, word for word, and those of README.md."""

import pathlib
import re
import unittest

from tests.examples import run_example

README = pathlib.Path(__file__).resolve().parent.parent / "README.md"

NETWORKS = ("""
>>> from fewrefresh.networks import Network
>>> network = Network({'a': (2, 1), 'b': (1, 1)}, {'s': (('sum', ((1, 'a'), (-3, 'b'))), 2)})
>>> [network.names(), network.below('s')]
[['a', 'b', 's'], ['a', 'b']]
""", """
>>> from fewrefresh.networks import Network
>>> Network({'a': (2, 1)}, {'v': (('max', ('a',)), 1), 'w': (('min', ('a',)), 1)})
raises BadNetwork(part='w')
""")

WORLDS = ("""
>>> from fewrefresh.networks import Network
>>> from fewrefresh.worlds import answers
>>> network = Network({'a': (2, 1), 'b': (1, 1)}, {'s': (('sum', ((1, 'a'), (-3, 'b'))), 2)})
>>> world = {'a': [0, 2, 4], 'b': [5, 5, 6]}
>>> answers(network, 2, world, [(1, 'a'), (2, 's')], [(2, 's', 0), (2, 'a', 2)])
[(-13, 1), (2, 2)]
""",)

ERRORBOUNDS = ("""
>>> from fewrefresh.errorbounds import ages, worst
>>> from fewrefresh.networks import Network
>>> network = Network({'a': (2, 1), 'b': (1, 1)}, {'s': (('sum', ((1, 'a'), (-3, 'b'))), 2)})
>>> plan = [(1, 'a'), (2, 's')]
>>> [ages(network, 2, plan, (2, 's', 0)), worst(network, 2, plan, (2, 's', 0))]
[{'a': 1, 'b': 2}, 8]
""", """
>>> from fewrefresh.errorbounds import least_bounds
>>> from fewrefresh.networks import Network
>>> network = Network({'a': (2, 1), 'b': (1, 1)}, {'m': (('max', ('a', 'b')), 2)})
>>> least_bounds(network, 3, [(3, 'a')], (3, 'm', 0))
{'a': 6, 'b': 3, 'm': 6}
""")

PLANS = ("""
>>> from fewrefresh.networks import Network
>>> from fewrefresh.plans import delayed, slacks
>>> network = Network({'a': (2, 1)}, {})
>>> [slacks(network, 4, [(2, 'a')], [(4, 'a', 5)]), delayed(network, 4, [(2, 'a')], [(4, 'a', 5), (3, 'a', 4)])]
[[1], [(3, 'a')]]
""",)

CHEAPEST = ("""
>>> from fewrefresh.cheapest import cheapest
>>> from fewrefresh.networks import Network
>>> network = Network({'a': (2, 1), 'b': (1, 1)}, {'m': (('max', ('a', 'b')), 3)})
>>> cheapest(network, 3, [(3, 'm', 3)]).plan
[(2, 'a'), (2, 'm')]
""", """
>>> from fewrefresh.cheapest import cheapest
>>> from fewrefresh.networks import Network
>>> network = Network({'a': (2, 1)}, {})
>>> cheapest(network, 4, [(2, 'a', 1), (4, 'a', 3)]).plan
[(2, 'a'), (3, 'a')]
""")

SITUATIONS = ("""
>>> from fewrefresh.networks import Network
>>> from fewrefresh.situations import ranges, situation
>>> network = Network({'a': (2, 1), 'b': (1, 3)}, {'m': (('max', ('a', 'b')), 2)})
>>> now = situation(network, {'a': (1, 10), 'b': (0, 8)}, 3)
>>> [now, ranges(network, now)['m']]
[{'a': (6, 14), 'b': (5, 11)}, (6, 14)]
""",)

READING = ("""
>>> from fewrefresh.networks import Network
>>> from fewrefresh.reading import what_to_read
>>> network = Network({'a': (2, 1), 'b': (1, 3)}, {'m': (('max', ('a', 'b')), 2)})
>>> what_to_read(network, {'a': (6, 14), 'b': (5, 11)}, ('m', 2)).chosen
['a', 'b']
""", """
>>> from fewrefresh.networks import Network
>>> from fewrefresh.reading import what_to_read
>>> network = Network({'a': (2, 1), 'b': (1, 3)}, {'m': (('max', ('a', 'b')), 2)})
>>> what_to_read(network, {'a': (6, 14), 'b': (5, 11)}, ('m', 3)).chosen
['a']
""", """
>>> from fewrefresh.networks import Network
>>> from fewrefresh.reading import Reading
>>> network = Network({'a': (2, 1), 'b': (1, 3)}, {'m': (('max', ('a', 'b')), 2)})
>>> doubt = ({'a': 6, 'b': 5}, {'a': 6, 'b': 11})
>>> [Reading(['a', 'b'], [doubt]).shows(network, {'a': (6, 14), 'b': (5, 11)}, ('m', 2)), Reading(['a', 'b'], [doubt, ({'a': 6, 'b': 5}, {'a': 14, 'b': 5})]).shows(network, {'a': (6, 14), 'b': (5, 11)}, ('m', 2))]
[False, True]
""", """
>>> from fewrefresh.networks import Network
>>> from fewrefresh.reading import middle
>>> network = Network({'a': (2, 1), 'b': (1, 3)}, {'m': (('max', ('a', 'b')), 2)})
>>> now = {'a': (6, 14), 'b': (5, 11)}
>>> [middle(network, now, ('m', 2), {'a': 6}), middle(network, now, ('m', 2), {'a': 7}), middle(network, now, ('m', 2), {'a': 9})]
[None, 9, 10]
""")

EXPIRY = ("""
>>> from fewrefresh.networks import Network
>>> from fewrefresh.expiry import lasts, weighing
>>> network = Network({'a': (2, 1), 'b': (1, 3)}, {'m': (('max', ('a', 'b')), 2)})
>>> [lasts(network, 6, [(2, 'a'), (2, 'm')], (2, 'm', 4)), weighing(network, 6, [(2, 'a'), (2, 'm')], (4, 'm', 4))]
[4, ['a', 'b']]
""",)

TEXTS = (r"""
>>> from fewrefresh.networks import Network
>>> from fewrefresh.texts import network_text
>>> network_text(Network({'a': (2, 1), 'b': (1, 1)}, {'s': (('sum', ((1, 'a'), (-3, 'b'))), 2)}))
'source a 2 1\nsource b 1 1\nview s 2 sum 1*a -3*b\n'
""", r"""
>>> from fewrefresh.texts import read_network
>>> read_network('source a 2 1\nview m 3 max a b\n')
raises BadText(row=0)
""", r"""
>>> from fewrefresh.networks import Network
>>> from fewrefresh.texts import read_plan
>>> network = Network({'a': (2, 1), 'b': (1, 3)}, {'m': (('max', ('a', 'b')), 2)})
>>> read_plan(network, 3, 'refresh 1 b\nrefresh 3 m\n')
[(1, 'b'), (3, 'm')]
""")

BENCHES = (r"""
>>> from fewrefresh.benches import Bench
>>> bench = Bench()
>>> bench.execute(('add', 'one', 'source a 2 1\n', 4))
>>> first = bench.execute(('ask', 'one', (4, 'a', 3)))
>>> [first, bench.execute(('plan', 'one')), bench.execute(('delay', 'one'))]
[[], [(3, 'a')], [(4, 'a')]]
""",)


class Examples(unittest.TestCase):
    def check(self, examples):
        for text in examples:
            with self.subTest(text=text):
                pairs = run_example(text)
                self.assertEqual(len(pairs), 1)
                for expected, found in pairs:
                    self.assertEqual(found, expected)

    def test_networks(self):
        self.check(NETWORKS)

    def test_worlds(self):
        self.check(WORLDS)

    def test_errorbounds(self):
        self.check(ERRORBOUNDS)

    def test_plans(self):
        self.check(PLANS)

    def test_cheapest(self):
        self.check(CHEAPEST)

    def test_situations(self):
        self.check(SITUATIONS)

    def test_reading(self):
        self.check(READING)

    def test_expiry(self):
        self.check(EXPIRY)

    def test_texts(self):
        self.check(TEXTS)

    def test_benches(self):
        self.check(BENCHES)

    def test_readme(self):
        blocks = re.findall(r"```\n(>>> .*?)```", README.read_text(encoding="utf-8"), re.S)
        pairs = run_example("".join(blocks))
        self.assertGreater(len(pairs), 5)
        for expected, found in pairs:
            self.assertEqual(found, expected)
