"""Promise 2.1: records. Also 0.2 to 0.4, as they speak of records."""

import unittest

from growalong import errors
from growalong.records import Record, ahead, is_whole
from growalong.webs import full
from tests.odd import odd_things

TURNED = Record((0, 1, 2), ((0, 1, 2), (1, 2, 0), (2, 0, 1)))


class Records(unittest.TestCase):

    def bad(self, writers, diaries, part, at):
        with self.assertRaises(errors.BadRecord) as caught:
            Record(writers, diaries)
        self.assertEqual((caught.exception.part, caught.exception.at), (part, at))

    def test_right_ones(self):
        thirty = tuple(range(30))
        for writers, diaries in (
                ((), ((),)), ((), ((),) * 7), ((0,), ((0,),)), ((0,), ((0,), ())), ((1,), ((), (0,))),
                ((0, 0), ((1, 0), (0,))), ((0,) * 30, (thirty[::-1], thirty)),
                (tuple([k % 7 for k in thirty]), (thirty,) * 7)):
            record = Record(writers, diaries)
            self.assertEqual((record.writers, record.diaries), (writers, diaries))
            self.assertIs(type(record.writers), tuple)
            self.assertIs(type(record.diaries), tuple)

    def test_diaries_that_are_no_such_tuple(self):
        for thing in odd_things() + [(), ((),) * 8, [()], [(0,)], 0, "()"]:
            if not (isinstance(thing, tuple) and 1 <= len(thing) <= 7):
                self.bad((), thing, "diaries", -1)
                self.bad(None, thing, "diaries", -1)
                self.bad((0,), thing, "diaries", -1)

    def test_writers_that_are_no_such_tuple(self):
        for thing in odd_things() + [[], [0], (0,) * 31, (None,) * 31, 0]:
            if not (isinstance(thing, tuple) and len(thing) <= 30):
                self.bad(thing, ((0,), (0,)), "writers", -1)
                self.bad(thing, (None,), "writers", -1)

    def test_writers_that_are_no_machines(self):
        for thing in odd_things() + [2, "0", (0,), [0]]:
            self.bad((thing,), ((0,), (0,)), "writers", 0)
            self.bad((0, 1, thing, 7), (None, ()), "writers", 2)
        self.bad((0, 1, 2), ((0, 1, 2),), "writers", 1)
        self.bad((0,) * 29 + (True,), ((), ()), "writers", 29)

    def test_diaries_that_are_none(self):
        wrong = [[0], [], (0, 0), (1, 0, 1), (2,), (-1,), (True,), (False,), ("0",), (None,), ((0,),), (0, [1]), 0, {},
                 (0, 1, 2), (0, 2)]
        for thing in odd_things() + wrong:
            self.bad((0, 1), (thing, (0, 1)), "diaries", 0)
            self.bad((0, 1), ((0, 1), thing, thing), "diaries", 1)
            self.bad((0, 1), ((), (), thing), "diaries", 2)
        self.bad((), ((), (0,)), "diaries", 1)

    def test_puts_that_their_writers_have_not(self):
        self.bad((0,), ((), (0,)), "put", 0)
        self.bad((0, 1), ((0, 1), (0,)), "put", 1)
        self.bad((0, 1), ((1,), (0,)), "put", 0)
        self.bad((0, 0, 1, 1), ((0, 1, 2, 3), (0, 1)), "put", 2)
        self.bad((0,) * 30, (tuple(range(29)),), "put", 29)

    def test_equal_ones(self):
        self.assertTrue(TURNED == Record((0, 1, 2), ((0, 1, 2), (1, 2, 0), (2, 0, 1))))
        self.assertFalse(TURNED != Record((0, 1, 2), ((0, 1, 2), (1, 2, 0), (2, 0, 1))))
        self.assertFalse(TURNED == Record((0, 1, 2), ((0, 1, 2), (1, 2, 0), (2, 1, 0))))
        self.assertFalse(TURNED == Record((0, 1, 0), ((0, 1, 2), (1, 2, 0), (2, 0, 1))))
        self.assertFalse(Record((), ((),)) == Record((), ((), ())))
        self.assertTrue(Record((), ((),)) != Record((), ((), ())))

    def test_equal_to_nothing_else(self):
        for thing in odd_things() + [(TURNED.writers, TURNED.diaries), full(3)]:
            self.assertIs(TURNED == thing, False)
            self.assertIs(TURNED != thing, True)
            self.assertIs(thing == TURNED, False)


class Ahead(unittest.TestCase):

    def test_ahead(self):
        self.assertEqual(ahead(TURNED, 1, 0), (1, 2))
        self.assertEqual(ahead(TURNED, 1, 1), ())
        self.assertEqual(ahead(TURNED, 2, 1), (0, 2))
        self.assertEqual(ahead(Record((0, 0, 0), ((2, 1, 0),)), 0, 0), (1, 2))
        for machine, diary in enumerate(TURNED.diaries):
            for at, put in enumerate(diary):
                self.assertEqual(ahead(TURNED, machine, put), tuple(sorted(diary[:at])))

    def test_none(self):
        record = Record((0, 0), ((1, 0), (0,), ()))
        self.assertEqual(ahead(record, 1, 0), ())
        for machine, put in ((1, 1), (2, 0), (2, 1)):
            self.assertIsNone(ahead(record, machine, put))

    def test_no_machine_then_no_put(self):
        for thing in odd_things() + [3, "0", (0,), [0]]:
            for put in (0, 3, None):
                with self.assertRaises(errors.NoMachine):
                    ahead(TURNED, thing, put)
            with self.assertRaises(errors.NoPut):
                ahead(TURNED, 0, thing)
        with self.assertRaises(errors.NoPut):
            ahead(Record((), ((),)), 0, 0)


class Whole(unittest.TestCase):

    def test_is_whole(self):
        self.assertIs(is_whole(TURNED), True)
        self.assertIs(is_whole(Record((0, 1), ((0, 1), (0, 1), (0,)))), False)
        self.assertIs(is_whole(Record((0,), ((0,), ()))), False)
        self.assertIs(is_whole(Record((0,), ((0,),))), True)

    def test_with_no_puts(self):
        for machines in range(1, 8):
            self.assertIs(is_whole(Record((), ((),) * machines)), True)
