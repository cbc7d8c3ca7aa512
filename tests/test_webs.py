"""Promises 1.1 and 1.2: webs. Also 0.2 to 0.4, as they speak of webs."""

import unittest
from itertools import combinations, permutations

from growalong import errors
from growalong.webs import (Web, both_ways, full, hub, is_strong, line, reached, renamed, ring, web_of_any_size,
                            with_wire, without_wire)
from tests.odd import odd_things
from tests.slow import all_webs, all_wires

NO_NUMBERS = (0, 8, -1, 10 ** 39, -10 ** 39)


def reached_slowly(web, machine):
    found = {machine}
    for _ in range(web.machines):
        found |= {x for y, x in web.wires if y in found}
    return tuple(sorted(found))


def not_wires(machines):
    return odd_things() + [
        (), (0,), (0, 1, 2), [0, 1], (0, 0), (0, machines), (machines, 0), (-1, 0), (0, -1), (True, 0), (0, True),
        (False, 1), ("0", "1"), (None, 0), (0, [1]), ((0, 1), 1), {0: 1, 1: 0}, 0, 1]


class Webs(unittest.TestCase):

    def bad(self, machines, wires, part):
        with self.assertRaises(errors.BadWeb) as caught:
            Web(machines, wires)
        self.assertEqual(caught.exception.part, part)
        self.assertIs(type(caught.exception.part), type(part))

    def test_right_ones(self):
        for machines in range(1, 8):
            wires = tuple(all_wires(machines))
            for some in ((), wires, wires[::2], wires[:1], wires[-1:]):
                web = Web(machines, some)
                self.assertEqual((web.machines, web.wires), (machines, some))
                self.assertIs(type(web.machines), int)
                self.assertIs(type(web.wires), tuple)

    def test_wrong_machines(self):
        for machines in NO_NUMBERS:
            self.bad(machines, (), "machines")
            self.bad(machines, None, "machines")
        for thing in odd_things() + [[1], (1,), "1"]:
            self.bad(thing, (), "machines")
            self.bad(thing, thing, "machines")

    def test_wires_that_are_no_tuple(self):
        for thing in odd_things() + [[], [(0, 1)], 0, {(0, 1): True}]:
            if not isinstance(thing, tuple):
                self.bad(3, thing, "wires")

    def test_the_first_wrong_item(self):
        for thing in not_wires(3):
            self.bad(3, (thing,), 0)
            self.bad(3, ((0, 1), thing), 1)
            self.bad(3, ((0, 1), (0, 2), thing, (0, 0)), 2)

    def test_wires_that_do_not_ascend(self):
        self.bad(3, ((0, 1), (0, 1)), 1)
        self.bad(3, ((0, 1), (1, 0), (0, 2), (1, 0)), 2)
        self.bad(3, ((2, 0), (0, 1)), 1)
        self.bad(3, ((1, 2), (1, 0)), 1)
        self.bad(3, ((0, 1), (1, 0), (1, 2), (1, 2), (7, 7)), 3)
        self.bad(1, ((0, 0),), 0)
        self.bad(1, ((0, 1),), 0)
        self.bad(2, ((0, 1), (0, 2)), 1)

    def test_equal_ones(self):
        self.assertTrue(Web(3, ((0, 1),)) == Web(3, ((0, 1),)))
        self.assertFalse(Web(3, ((0, 1),)) != Web(3, ((0, 1),)))
        self.assertFalse(Web(3, ((0, 1),)) == Web(4, ((0, 1),)))
        self.assertFalse(Web(3, ((0, 1),)) == Web(3, ((1, 0),)))
        self.assertTrue(Web(3, ((0, 1),)) != Web(3, ()))
        webs = all_webs(2) + all_webs(3)
        for at, web in enumerate(webs):
            self.assertEqual([web == other for other in webs], [at == k for k in range(len(webs))])

    def test_equal_to_nothing_else(self):
        web = full(2)
        for thing in odd_things() + [(2, ((0, 1), (1, 0))), 2, "full"]:
            if isinstance(thing, Web):
                continue
            self.assertIs(web == thing, False)
            self.assertIs(web != thing, True)
            self.assertIs(thing == web, False)


class Building(unittest.TestCase):

    def no(self, error, function, *passed):
        with self.assertRaises(error):
            function(*passed)

    def test_each_number(self):
        for n in range(1, 8):
            self.assertEqual(full(n), Web(n, tuple(all_wires(n))))
            self.assertEqual(hub(n), Web(n, tuple([(y, x) for y, x in all_wires(n) if y == 0 or x == 0])))
            self.assertEqual(line(n), Web(n, tuple([(y, x) for y, x in all_wires(n) if abs(y - x) == 1])))
            if n >= 3:
                wires = tuple([(y, x) for y, x in all_wires(n) if (y - x) % n in (1, n - 1)])
                self.assertEqual(ring(n), Web(n, wires))

    def test_ring_of_three_and_four(self):
        self.assertEqual(ring(3), full(3))
        self.assertEqual(ring(4).wires, ((0, 1), (0, 3), (1, 0), (1, 2), (2, 1), (2, 3), (3, 0), (3, 2)))

    def test_no_number(self):
        for thing in [*NO_NUMBERS, *odd_things()]:
            for function in (full, hub, line, ring):
                self.no(errors.NoNumber, function, thing)
            self.no(errors.NoNumber, both_ways, thing, ())
            self.no(errors.NoNumber, both_ways, thing, None)
        self.no(errors.NoNumber, ring, 1)
        self.no(errors.NoNumber, ring, 2)

    def test_both_ways(self):
        there_and_back = Web(4, ((0, 3), (1, 2), (2, 1), (3, 0)))
        for pairs in ([(1, 2), (3, 0)], ((3, 0), (1, 2)), [(2, 1), (1, 2), (1, 2), (0, 3), (3, 0)]):
            kept = list(pairs)
            self.assertEqual(both_ways(4, pairs), there_and_back)
            self.assertEqual(list(pairs), kept)
        for n in range(1, 8):
            self.assertEqual(both_ways(n, []), Web(n, ()))
            self.assertEqual(both_ways(n, ()), Web(n, ()))
            self.assertEqual(both_ways(n, all_wires(n)), full(n))
        self.assertEqual(both_ways(2, [(0, 1)] * 6000), full(2))

    def test_no_pairs(self):
        for thing in not_wires(3):
            self.no(errors.NoPairs, both_ways, 3, [thing])
            self.no(errors.NoPairs, both_ways, 3, (thing,))
            self.no(errors.NoPairs, both_ways, 3, [(0, 1), thing, (1, 2)])
            if thing != ():
                self.no(errors.NoPairs, both_ways, 3, thing)
        self.no(errors.NoPairs, both_ways, 1, [(0, 1)])
        self.no(errors.NoPairs, both_ways, 3, {(0, 1): True})

    def test_renamed(self):
        self.assertEqual(renamed(Web(3, ((0, 1), (1, 2))), (2, 0, 1)), Web(3, ((0, 1), (2, 0))))
        self.assertEqual(renamed(hub(4), (3, 1, 2, 0)), both_ways(4, [(3, 0), (3, 1), (3, 2)]))
        for web in all_webs(3):
            kept = web.wires
            for order in permutations(range(3)):
                there = renamed(web, order)
                self.assertEqual(there.wires, tuple(sorted([(order[y], order[x]) for y, x in web.wires])))
                back = tuple([order.index(k) for k in range(3)])
                self.assertEqual(renamed(there, back), web)
            self.assertEqual((web.machines, web.wires), (3, kept))
        self.assertEqual(renamed(Web(1, ()), (0,)), Web(1, ()))

    def test_no_order(self):
        wrong = [[0, 1, 2], (0, 1), (0, 1, 2, 3), (0, 1, 1), (1, 2, 3), (0, 1, -1), (0, True, 2), (False, 1, 2), (),
                 "012", (0, 1, "2"), (0, 1, [2]), {0: 0, 1: 1, 2: 2}, 0, (0, 1, None), ((0,), 1, 2)]
        for thing in odd_things() + wrong:
            self.no(errors.NoOrder, renamed, full(3), thing)
        self.no(errors.NoOrder, renamed, Web(1, ()), (False,))

    def test_with_and_without_wire(self):
        for web in all_webs(3):
            for wire in all_wires(3):
                kept = web.wires
                if wire in web.wires:
                    less = without_wire(web, wire)
                    self.assertEqual(less.wires, tuple([other for other in web.wires if other != wire]))
                    self.assertEqual(with_wire(less, wire), web)
                    self.no(errors.NoWire, with_wire, web, wire)
                else:
                    more = with_wire(web, wire)
                    self.assertEqual(more.wires, tuple(sorted([*web.wires, wire])))
                    self.assertEqual(more.machines, 3)
                    self.assertEqual(without_wire(more, wire), web)
                    self.no(errors.NoWire, without_wire, web, wire)
                self.assertEqual(web.wires, kept)

    def test_no_wire(self):
        for web in (full(3), Web(3, ()), Web(3, ((1, 2),)), Web(3, ((1, 0),))):
            for thing in not_wires(3):
                self.no(errors.NoWire, with_wire, web, thing)
                self.no(errors.NoWire, without_wire, web, thing)

    def test_with_wire_orders_them(self):
        self.assertEqual(with_wire(Web(3, ((0, 1), (2, 1))), (1, 0)), Web(3, ((0, 1), (1, 0), (2, 1))))

    def test_webs_larger_than_a_constructor_lets(self):
        web = web_of_any_size(9, [(k, k + 1) for k in range(8)])
        self.assertEqual(reached(web, 6), (6, 7, 8))
        self.assertEqual(with_wire(web, (8, 0)).machines, 9)
        self.assertTrue(is_strong(with_wire(web, (8, 0))))
        self.assertEqual(without_wire(web, (7, 8)).wires, web.wires[:-1])
        self.assertEqual(renamed(web, tuple(range(8, -1, -1))).wires, tuple([(k + 1, k) for k in range(8)]))


class Reaching(unittest.TestCase):

    def test_reached(self):
        self.assertEqual(reached(Web(3, ((0, 1),)), 0), (0, 1))
        self.assertEqual(reached(Web(3, ((0, 1),)), 1), (1,))
        self.assertEqual(reached(Web(4, ((0, 2), (2, 1), (3, 0))), 3), (0, 1, 2, 3))
        self.assertEqual(reached(Web(1, ()), 0), (0,))
        for n in range(1, 8):
            for machine in range(n):
                self.assertEqual(reached(Web(n, ()), machine), (machine,))
                self.assertEqual(reached(line(n), machine), tuple(range(n)))

    def test_all_small_webs(self):
        for web in all_webs(1) + all_webs(2) + all_webs(3) + all_webs(4)[::7]:
            lots = [reached(web, machine) for machine in range(web.machines)]
            self.assertEqual(lots, [reached_slowly(web, machine) for machine in range(web.machines)])
            self.assertIs(is_strong(web), all([len(lot) == web.machines for lot in lots]))

    def test_is_strong(self):
        self.assertIs(is_strong(Web(1, ())), True)
        self.assertIs(is_strong(Web(2, ((0, 1),))), False)
        self.assertIs(is_strong(Web(2, ((1, 0),))), False)
        self.assertIs(is_strong(Web(3, ((0, 1), (1, 2), (2, 0)))), True)
        self.assertIs(is_strong(both_ways(4, [(0, 1), (2, 3)])), False)
        for n in range(1, 8):
            self.assertIs(is_strong(hub(n)), True)

    def test_no_machine(self):
        for thing in odd_things() + [3, 8, "0", (0,), [0]]:
            with self.assertRaises(errors.NoMachine):
                reached(full(3), thing)
        with self.assertRaises(errors.NoMachine):
            reached(Web(1, ()), 1)
