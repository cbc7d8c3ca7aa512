"""Promises 7.1 and 7.2: programs. Also 0.2 to 0.4, as they speak of them."""

import unittest
from itertools import combinations, permutations

from growalong import errors
from growalong.programs import Program, put_rests, renamed_program, waits_of
from growalong.webs import full
from tests.odd import odd_things
from tests.slowbench import chance_program

REST = ("rest",)
# One row of each form, in a code of five rows of the machine 0, which owns the cell 1 of two.
ROWS = [("set", 0, 5), ("set", 7, 10 ** 6), ("set", 3, -10 ** 6), ("copy", 1, 2), ("copy", 7, 7), ("add", 0, 1, 7),
        ("take", 7, 0, 0), ("put", 1, 7), ("look", 7, 0), ("look", 0, 1), ("tell", 7), REST, ("same", 0, 7, 0),
        ("same", 1, 1, 5), ("less", 7, 0, 4), ("less", 0, 0, 5), ("go", 0), ("go", 5), ("call", 5), ("call", 0),
        ("back",)]
NO_ROWS = [
    (), ("set",), ("set", 0), ("set", 0, 1, 2), ("set", 8, 0), ("set", -1, 0), ("set", 0, 10 ** 6 + 1),
    ("set", 0, -10 ** 6 - 1), ("set", 0, 10 ** 39), ("set", True, 0), ("set", 0, True), ("set", 0, None), ["set", 0, 1],
    ("set", 0, "1"), ("Set", 0, 1), (b"set", 0, 1), ("", 0), ("copy", 0, 8), ("copy", 8, 0), ("copy", 0), ("copy", 0, [0]),
    ("add", 0, 1), ("add", 0, 1, 8), ("add", 0, 8, 1), ("add", 8, 0, 1), ("add", 0, 1, 2, 3), ("take", 0, 1, False),
    ("take", 0, 0, -1), ("put", 0, 0), ("put", 2, 0), ("put", -1, 0), ("put", 1, 8), ("put", True, 0), ("put", 1),
    ("look", 0, 2), ("look", 8, 0), ("look", 0, -1), ("look", 0, False), ("look", 0, (0,)), ("tell",), ("tell", 8),
    ("tell", 0, 0), ("rest", 0), ("rest", None), "rest", ["rest"], ("same", 0, 0, 6), ("same", 0, 0, -1),
    ("same", 0, 8, 0), ("same", 0, 0), ("less", 0, 0, True), ("less", 8, 0, 0), ("less", 0, 0, 0, 0), ("go", 6), ("go",),
    ("go", -1), ("go", "0"), ("go", False), ("call", 6), ("call", None), ("back", 0), ("bring", 0), (None,), (0,),
    ((),), (("rest",),), ({}, 0), 0, None, "back", {"rest": 0}, ("rest", ())]


class Programs(unittest.TestCase):

    def bad(self, owners, codes, part, at):
        with self.assertRaises(errors.BadProgram) as caught:
            Program(owners, codes)
        self.assertEqual((caught.exception.part, caught.exception.at), (part, at))
        self.assertIs(type(caught.exception.part), type(part))

    def test_right_ones(self):
        for row in ROWS:
            code = (row, REST, REST, REST, REST)
            program = Program((1, 0), (code, ()))
            self.assertEqual((program.owners, program.codes), ((1, 0), (code, ())))
            self.assertIs(type(program.owners), tuple)
            self.assertIs(type(program.codes), tuple)
        for machines in range(1, 8):
            self.assertEqual(Program((machines - 1,), ((),) * machines).codes, ((),) * machines)
            Program((machines - 1,) * 8, ((),) * (machines - 1) + ((("put", 7, 0),) * 60,))
            Program((0,), ((("go", 60),) * 60,) * machines)

    def test_codes_that_are_no_such_tuple(self):
        for thing in odd_things() + [(), ((),) * 8, [()], [], {(): 0}, "()", 1]:
            if not (isinstance(thing, tuple) and 1 <= len(thing) <= 7):
                for owners in ((0,), None, (9,)):
                    self.bad(owners, thing, "codes", -1)

    def test_owners_that_are_no_such_tuple(self):
        for thing in odd_things() + [(), (0,) * 9, [0], 0]:
            if not (isinstance(thing, tuple) and 1 <= len(thing) <= 8):
                self.bad(thing, ((),), "owners", -1)
                self.bad(thing, (None, ((),)), "owners", -1)

    def test_owners_that_are_no_machines(self):
        for thing in odd_things() + [2, -1, "0", (0,), [0], True]:
            self.bad((thing,), ((), ()), "owners", 0)
            self.bad((0, 1, thing, thing), (None, ((),)), "owners", 2)
        self.bad((0,) * 7 + (1,), ((),), "owners", 7)

    def test_codes_that_are_none(self):
        for thing in odd_things() + [[], [REST], (REST,) * 61, (None,) * 61, "", 0, None]:
            if not (isinstance(thing, tuple) and len(thing) <= 60):
                self.bad((0,), (thing,), "codes", 0)
                self.bad((0,), ((), (None,), thing, thing), "codes", 2)

    def test_rows_that_are_none(self):
        for row in odd_things() + NO_ROWS:
            self.bad((1, 0), ((row, REST, REST, REST, REST), ()), 0, 0)
            self.bad((1, 0), ((REST, REST, REST, row, row), (row,)), 0, 3)
            self.bad((1, 0), ((), (REST,), (REST, row)), 2, 1)
        self.bad((0,), ((REST,) * 59 + (("go", 61),),), 0, 59)

    def test_another_machines_cell(self):
        row = ("put", 0, 0)
        Program((1, 0), ((), (row,)))
        self.bad((1, 0), ((row,), (row,)), 0, 0)
        self.bad((1, 0), ((), (("put", 1, 0),)), 1, 0)
        self.bad((0,), ((row,), (row,)), 1, 0)

    def test_equal_ones(self):
        one = Program((0, 1), ((REST,), ()))
        self.assertTrue(one == Program((0, 1), ((REST,), ())))
        self.assertFalse(one != Program((0, 1), ((REST,), ())))
        for other in (Program((0, 0), ((REST,), ())), Program((0, 1), ((), (REST,))), Program((0,), ((REST,), ())),
                      Program((0, 1), ((REST, REST), ())), Program((0, 1), ((("back",),), ()))):
            self.assertFalse(one == other)
            self.assertTrue(one != other)
        for thing in odd_things() + [((0, 1), ((REST,), ())), full(2), one.codes]:
            self.assertFalse(one == thing)


class PutRests(unittest.TestCase):

    def test_where_the_rests_stand(self):
        program = Program((0,), ((("look", 0, 0), ("put", 0, 0)), (("tell", 0),)))
        self.assertEqual(put_rests(program, ()), program)
        rested = put_rests(program, ((0, 0), (1, 0)))
        self.assertEqual(rested.codes, ((("look", 0, 0), REST, ("put", 0, 0)), (("tell", 0), REST)))
        self.assertEqual(put_rests(program, ((0, 1),)).codes, ((("look", 0, 0), ("put", 0, 0), REST), (("tell", 0),)))
        self.assertEqual(rested.owners, (0,))

    def test_where_rows_go(self):
        code = (("same", 0, 1, 3), ("go", 0), ("less", 0, 1, 1), ("call", 4))
        rested = put_rests(Program((0,), (code,)), ((0, 0), (0, 2)))
        self.assertEqual(rested.codes, ((("same", 0, 1, 5), REST, ("go", 0), ("less", 0, 1, 2), REST, ("call", 6)),))
        # Behind another rest, and the number of all rows.
        code = (REST, ("go", 1), ("go", 2))
        self.assertEqual(put_rests(Program((0,), (code,)), ((0, 0),)).codes, ((REST, REST, ("go", 2), ("go", 3)),))
        self.assertEqual(put_rests(Program((0,), (code,)), ((0, 2),)).codes, ((REST, ("go", 1), ("go", 2), REST),))
        code = (("go", 1),)
        self.assertEqual(put_rests(Program((0,), (code,)), ((0, 0),)).codes, ((("go", 2), REST),))

    def test_rows_that_go_go_to_the_same_rows(self):
        for seed in range(60):
            program = chance_program(2, 7, seed)
            places = [(machine, row) for machine in (0, 1) for row in range(len(program.codes[machine]))]
            for lot in combinations(places, 2):
                for machine, code in enumerate(program.codes):
                    self.check_code(code, put_rests(program, lot).codes[machine], [r for m, r in lot if m == machine])

    def check_code(self, code, rested, rows):
        where, at = [], 0
        for row in range(len(code)):
            where.append(at)
            at += 1
            if row in rows:
                self.assertEqual(rested[at], REST)
                at += 1
        where.append(at)
        self.assertEqual(len(rested), at)
        for row, now in zip(code, [rested[at] for at in where[:-1]]):
            if row[0] in ("same", "less", "go", "call"):
                self.assertEqual(now, (*row[:-1], where[row[-1]]))
            else:
                self.assertEqual(now, row)

    def test_all_of_waits_of(self):
        program = Program((0, 1), ((("put", 0, 0), ("look", 0, 1), ("set", 0, 1)), (("put", 1, 1), ("tell", 1))))
        self.assertEqual(waits_of(program), ((0, 0), (0, 1), (1, 0)))
        rested = put_rests(program, waits_of(program))
        self.assertEqual(rested.codes, ((("put", 0, 0), REST, ("look", 0, 1), REST, ("set", 0, 1)),
                                        (("put", 1, 1), REST, ("tell", 1))))
        self.assertEqual(waits_of(rested), ((0, 0), (0, 2), (1, 0)))
        self.assertEqual(waits_of(Program((0,), ((REST, ("tell", 0)), ()))), ())

    def test_sixty_rows(self):
        program = Program((0,), ((REST,) * 58 + (("go", 60), REST), ()))
        for places in (((0, 0),), ((0, 59),), ((0, 0), (0, 1))):
            with self.assertRaises(errors.TooMany) as caught:
                put_rests(program, places)
            self.assertEqual(caught.exception.most, 60)
        less = Program((0,), ((REST,) * 58 + (("go", 59),), ()))
        self.assertEqual(put_rests(less, ((0, 3),)).codes, ((REST,) * 59 + (("go", 60),), ()))
        self.assertEqual(put_rests(program, ()), program)
        with self.assertRaises(errors.NoPlaces):
            put_rests(program, ((0, 0), (0, 0)))

    def test_no_places(self):
        program = Program((0,), ((REST, REST), (REST,), ()))
        wrong = [[], [(0, 0)], ((0, 2),), ((2, 0),), ((3, 0),), ((0, -1),), ((-1, 0),), ((True, 0),), ((0, False),),
                 ((0, 0), (0, 0)), ((0, 1), (0, 0)), ((1, 0), (0, 0)), ([0, 0],), ((0,),), ((0, 0, 0),), (0, 0), (0,),
                 (("0", 0),), ((None, None),), {(0, 0): 1}, "", 0, (((0,), 0),), ((0, 0), None)]
        for thing in odd_things() + wrong:
            if thing != ():
                with self.assertRaises(errors.NoPlaces):
                    put_rests(program, thing)
        self.assertEqual(put_rests(program, ((0, 0), (0, 1), (1, 0))).codes, ((REST,) * 4, (REST,) * 2, ()))


class Renamed(unittest.TestCase):

    def test_codes_and_owners(self):
        program = Program((0, 2, 1, 0), ((("put", 0, 0),), (("put", 2, 0),), (("put", 1, 0), ("look", 0, 0))))
        renamed = renamed_program(program, (1, 2, 0))
        self.assertEqual(renamed.owners, (1, 0, 2, 1))
        self.assertEqual(renamed.codes, ((("put", 1, 0), ("look", 0, 0)), (("put", 0, 0),), (("put", 2, 0),)))
        self.assertEqual(Program(renamed.owners, renamed.codes), renamed)

    def test_there_and_back(self):
        for seed in range(10):
            program = chance_program(4, 5, seed)
            for order in permutations(range(4)):
                back = tuple([order.index(k) for k in range(4)])
                self.assertEqual(renamed_program(renamed_program(program, order), back), program)
            self.assertEqual(renamed_program(program, (0, 1, 2, 3)), program)

    def test_no_order(self):
        program = Program((0,), ((), ()))
        for thing in odd_things() + [(0,), (0, 0), (0, 1, 2), (1, 2), [0, 1], (True, False), (-1, 0), "01", {0: 1, 1: 0}]:
            with self.assertRaises(errors.NoOrder):
                renamed_program(program, thing)
