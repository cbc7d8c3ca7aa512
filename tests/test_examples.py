"""The examples of the document, as far as they have landed."""

import unittest

from growalong.records import Record, ahead
from growalong.runs import led
from growalong.webs import Web, full, reached, ring


class Examples(unittest.TestCase):

    def test_e01(self):
        self.assertEqual(reached(Web(3, ((0, 1),)), 0), (0, 1))
        self.assertIs(ring(3) == full(3), True)

    def test_e02(self):
        t = Record((0, 1, 2), ((0, 1, 2), (1, 2, 0), (2, 0, 1)))
        self.assertEqual(ahead(t, 1, 0), (1, 2))
        told = led(full(2), (0,), [("put", 0), ("come", 0, 1)])
        self.assertEqual(told, (((0,), (0,)), {(0, 1): (), (1, 0): (0,)}))
