"""The examples of the document, word for word."""

import unittest

from tests.examples import run_example

NETWORKS = ("""
>>> from fewrefresh.networks import Network
>>> network = Network({'a': (2, 1), 'b': (1, 1)}, {'s': (('sum', ((1, 'a'), (-3, 'b'))), 2)})
>>> [network.names(), network.below('s')]
[['a', 'b', 's'], ['a', 'b']]
""", """
>>> from fewrefresh.networks import Network
>>> Network({'a': (2, 1)}, {'v': (('max', ('a',)), 1), 'w': (('min', ('a',)), 1)})
raises BadNetwork(part='w')
""")

WORLDS = ("""
>>> from fewrefresh.networks import Network
>>> from fewrefresh.worlds import answers
>>> network = Network({'a': (2, 1), 'b': (1, 1)}, {'s': (('sum', ((1, 'a'), (-3, 'b'))), 2)})
>>> world = {'a': [0, 2, 4], 'b': [5, 5, 6]}
>>> answers(network, 2, world, [(1, 'a'), (2, 's')], [(2, 's', 0), (2, 'a', 2)])
[(-13, 1), (2, 2)]
""",)


class Examples(unittest.TestCase):
    def check(self, examples):
        for text in examples:
            with self.subTest(text=text):
                pairs = run_example(text)
                self.assertEqual(len(pairs), 1)
                for expected, found in pairs:
                    self.assertEqual(found, expected)

    def test_networks(self):
        self.check(NETWORKS)

    def test_worlds(self):
        self.check(WORLDS)
