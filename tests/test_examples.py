"""The examples of the document."""

import unittest

from growalong.assembling import assembled
from growalong.days import fewest_wires, sure_wires, uncaused
from growalong.growing import growing, is_bar, is_made, may_have_put, run_of
from growalong.halls import Hall, cuts, picture
from growalong.outcomes import outcomes
from growalong.plain import fewest_rests, not_plain, plain_outcomes
from growalong.programs import Program
from growalong.records import Record, ahead
from growalong.runs import led
from growalong.showing import within
from growalong.sights import partings, ways_apart
from growalong.texts import web_text
from growalong.webs import Web, full, hub, reached, ring

T = Record((0, 1, 2), ((0, 1, 2), (1, 2, 0), (2, 0, 1)))
P = Program((0, 1), ((("set", 0, 1), ("put", 0, 0), ("look", 1, 1), ("tell", 1)),
                     (("set", 0, 1), ("put", 1, 0), ("look", 1, 0), ("tell", 1))))


class Examples(unittest.TestCase):

    def test_e01(self):
        self.assertEqual(reached(Web(3, ((0, 1),)), 0), (0, 1))
        self.assertIs(ring(3) == full(3), True)

    def test_e02(self):
        self.assertEqual(ahead(T, 1, 0), (1, 2))
        told = led(full(2), (0,), [("put", 0), ("come", 0, 1)])
        self.assertEqual(told, (((0,), (0,)), {(0, 1): (), (1, 0): (0,)}))

    def test_e03(self):
        w, r = ring(4), Record((0, 1), ((0, 1), (1, 0), (0, 1), (1, 0)))
        self.assertIs(is_bar(w, r, (0, (2,))), True)
        self.assertIsNone(run_of(w, r))
        self.assertIs(is_made(w, Record((0, 1), ((0, 1), (1, 0), (1, 0), (0, 1)))), True)
        self.assertEqual(growing(full(3), T, 0), [(0, 1), (0, 2), (2, 1)])

    def test_e04(self):
        self.assertEqual(may_have_put(full(3), T, 0), (0,))

    def test_e05(self):
        self.assertIsNone(uncaused([Record((0, 1), ((1, 0), (1, 0)))]))
        self.assertEqual(sure_wires([T]), [(0, 2), (1, 0), (2, 1)])
        self.assertIs(fewest_wires([Record((0,), ((0,), (0,)))]) == Web(2, ((0, 1),)), True)

    def test_e06(self):
        self.assertEqual(picture(T), ("turned", 0, 1, 2))
        self.assertEqual(cuts(Hall(((0, 1), (0, 2), (0, 3)), (1, 2, 3))), [(1,), (1, 2), (2,)])

    def test_e07(self):
        self.assertEqual(ways_apart(hub(3), ((1, 2),)), ((1, 0, 2),))
        self.assertIsNone(ways_apart(hub(4), ((0, 1), (2, 3))))
        self.assertEqual(partings(hub(3), 1, 2), [(), (0, 1), (0, 1, 2), (1,)])

    def test_e08(self):
        told = [((0,), (0,)), ((0,), (1,)), ((1,), (0,)), ((1,), (1,))]
        self.assertEqual(outcomes(full(2), P), told)
        self.assertEqual(plain_outcomes(P), told[1:])
        self.assertEqual(not_plain(full(2), P), ((0,), (0,)))
        self.assertEqual(fewest_rests(full(2), P), ((0, 1), (1, 1)))

    def test_e09(self):
        told = assembled("cell a 0\nmachine 0\nset r0 5\nput a r0\n")
        self.assertEqual(told, Program((0,), ((("set", 0, 5), ("put", 0, 0)),)))

    def test_e10(self):
        self.assertIs(within(hub(3), full(3)), True)
        self.assertEqual(web_text(full(2)), "machines 2\nwire 0 1\nwire 1 0\n")
