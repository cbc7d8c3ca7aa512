"""Promise 12.2: code texts. Also 0.2 to 0.5, as they speak of them."""

import unittest

from growalong import errors
from growalong.assembling import assembled, listed
from growalong.programs import Program, put_rests, waits_of
from tests.odd import odd_things
from tests.slowbench import chance_program
from tests.test_programs import ROWS

REST = ("rest",)


def code_text(*rows, cells=("cell a 0", "cell b 1"), behind=("machine 1",)):
    """A code text with these rows of the machine 0."""
    return "".join([row + "\n" for row in (*cells, "machine 0", *rows, *behind)])


class Assembled(unittest.TestCase):

    def rows(self, *rows):
        return assembled(code_text(*rows)).codes[0]

    def test_example(self):
        self.assertEqual(assembled("cell a 0\nmachine 0\nset r0 5\nput a r0\n"),
                         Program((0,), ((("set", 0, 5), ("put", 0, 0)),)))

    def test_each_form_of_row(self):
        cases = {
            "set r0 5": ("set", 0, 5), "set r7 -1000000": ("set", 7, -10 ** 6), "set r1 1000000": ("set", 1, 10 ** 6),
            "set r0 0": ("set", 0, 0), "set r0 -1": ("set", 0, -1), "copy r1 r2": ("copy", 1, 2),
            "add r0 r1 r7": ("add", 0, 1, 7), "take r3 r3 r3": ("take", 3, 3, 3), "put a r7": ("put", 0, 7),
            "look r7 a": ("look", 7, 0), "look r0 b": ("look", 0, 1), "tell r4": ("tell", 4), "rest": REST,
            "same r0 r1 x": ("same", 0, 1, 0), "less r6 r5 x": ("less", 6, 5, 0), "go x": ("go", 0),
            "call x": ("call", 0), "back": ("back",)}
        for row, told in cases.items():
            self.assertEqual(self.rows("x:", row, "rest"), (told, REST))

    def test_labels(self):
        self.assertEqual(self.rows("go end", "top:", "rest", "go top", "end:"), (("go", 3), REST, ("go", 1)))
        self.assertEqual(self.rows("a:", "b:", "machine:", "go a", "go b", "go machine"), (("go", 0),) * 3)
        self.assertEqual(self.rows("a:", "b:"), ())
        self.assertEqual(self.rows("x:", "go y", "y:", "z:", "go x", "go z", "abcdefgh:"), (("go", 1), ("go", 0), ("go", 1)))
        # Each machine has labels of its own, and a cell may have the name of one.
        text = "cell x 0\nmachine 0\nx:\nlook r0 x\ngo x\nmachine 1\nrest\nx:\ngo x\n"
        self.assertEqual(assembled(text).codes, ((("look", 0, 0), ("go", 0)), (REST, ("go", 1))))

    def test_cells(self):
        text = "cell one 1\ncell b 0\ncell abcdefgh 1\nmachine 0\nput b r0\nlook r1 abcdefgh\nmachine 1\nput abcdefgh r0\n"
        self.assertEqual(assembled(text), Program((1, 0, 1), ((("put", 1, 0), ("look", 1, 2)), (("put", 2, 0),))))
        self.assertEqual(assembled("cell a 0\nmachine 0\n"), Program((0,), ((),)))
        self.assertEqual(assembled("cell a 6\n" + "".join([f"machine {x}\n" for x in range(7)])), Program((6,), ((),) * 7))

    def bad(self, text, at):
        with self.assertRaises(errors.BadText) as caught:
            assembled(text)
        self.assertEqual(caught.exception.line, at)

    def test_no_string(self):
        for thing in odd_things() + [b"cell a 0\n", ["cell a 0\n"]]:
            if not isinstance(thing, str):
                self.bad(thing, 0)

    def test_no_line_and_what_stands_behind_the_last(self):
        self.bad("", 1)
        self.bad("\n", 1)
        self.bad("cell a 0", 1)
        self.bad("cell a 0\nmachine 0", 2)
        self.bad("cell a 0\nmachine 0\nrest\nx", 4)
        self.bad("cell a 0\nmachine 0\ngo x\nx:", 3)
        self.bad("cell a 0\nmachine 0\nrest\n ", 4)
        self.bad("cell a 9\nmachine 0\nrest", 3)
        self.bad("a" * 40000, 1)
        self.bad("cell a 0\n" + "\n" * 39000, 2)

    def test_cell_lines(self):
        for row in ("cell", "cell a", "cell a 0 0", "cell A 0", "cell a0 0", "cell abcdefghi 0", "cell a 00", "cell a 01",
                    "cell a -1", "cell a 1234567890", "cell  a 0", " cell a 0", "cell a 0 ", "cell a x", "cells a 0",
                    "cell a_b 0", "cell  0", "cell a: 0", "Cell a 0", "cell a +0"):
            self.bad(row + "\nmachine 0\n", 1)
            self.bad(f"cell z 0\n{row}\nmachine 0\nnothing\n", 2)
        self.bad("cell a 0\ncell b 0\ncell a 1\nmachine 0\n", 3)
        self.bad("cell a 0\nmachine 0\ncell b 0\n", 3)
        self.bad("cell a 0\nmachine 0\nrest\nmachine 1\ncell b 0\n", 5)

    def test_what_stands_first(self):
        for row in ("machine 0", "rest", "x:", "nothing", "set r0 1", ""):
            self.bad(row + "\ncell a 0\nmachine 0\n", 1)
        for row in ("rest", "x:", "back", "set r0 1", "go x", ""):
            self.bad(f"cell a 0\n{row}\nx:\nmachine 0\n", 2)

    def test_machine_lines(self):
        for row in ("machine", "machine 1", "machine 00", "machine -0", "machine 0 0", "machine x", "machine  0",
                    " machine 0", "machine 0 ", "machines 0", "machine 7", "machine 0000000000", "Machine 0"):
            self.bad(f"cell a 0\n{row}\nrest\n", 2)
        for row in ("machine 0", "machine 2", "machine 01"):
            self.bad(f"cell a 0\nmachine 0\n{row}\n", 3)
            self.bad(f"cell a 0\nmachine 0\nx:\ngo x\n{row}\nrest\n", 5)

    def test_rows_that_are_none(self):
        rows = ["", " ", "set", "set r0", "set r0 1 2", "set 0 1", "set r8 1", "set r9 1", "set r00 1", "set r 1", "set R0 1",
                "set r0 -0", "set r0 00", "set r0 01", "set r0 -01", "set r0 +1", "set r0 --1", "set r0 -", "set r0 1234567890",
                "set r0 -1234567890", "set r0 r1", "set r0 1.0", "set  r0 1", " set r0 1", "set r0 1 ", "set\tr0 1",
                "Set r0 1", "sett r0 1", "copy r0", "copy r0 1", "copy r0 r8", "copy r0 r1 r2", "add r0 r1", "add r0 r1 r2 r3",
                "add r0 r1 1", "take r0 r1 r8", "put a", "put r0 a", "put a 0", "put a r0 r0", "put c r0", "put b r0",
                "put A r0", "put x r0", "look a r0", "look r0", "look r0 c", "look r0 x", "look r8 a", "look r0 0", "tell",
                "tell 0", "tell r0 r0", "tell a", "rest 0", "rest ", "rests", "same r0 r1", "same r0 r1 0", "same r0 r1 y",
                "same r0 r1 x:", "same r0 x", "less r0 r1", "less r0 r1 a", "less r0 8 x", "go", "go 0", "go y", "go x x",
                "go a", "call", "call y", "call 0", "back 0", "back x", "Back", "nothing", "x", "go x:", ":", "x :", "X:",
                "x1:", "abcdefghi:", "x: rest", "x:y:", "::", "x::", "-1", "0", "cell c 0"]
        for row in rows:
            self.bad(code_text("x:", row), 5)
            self.bad(code_text("go x", "rest", "x:", row, row, behind=()), 7)
            self.bad(code_text("x:", behind=("machine 1", "x:", row, "nothing")), 7 if row != "put b r0" else 8)

    def test_names_told_twice(self):
        self.bad(code_text("x:", "x:"), 5)
        self.bad(code_text("x:", "rest", "go x", "x:", "nothing"), 7)
        self.assertEqual(assembled(code_text("x:", behind=("machine 1", "x:"))).codes, ((), ()))

    def test_another_machines_cell(self):
        self.bad(code_text("put b r0"), 4)
        self.bad(code_text("put a r0", behind=("machine 1", "put b r0", "put a r0")), 7)

    def test_labels_that_are_nowhere(self):
        self.bad(code_text("go x", behind=("machine 1", "x:")), 4)
        self.bad(code_text("x:", behind=("machine 1", "rest", "go x", "y:")), 7)
        # The label is there, whatever stands between.
        self.bad(code_text("go x", "nothing", "x:"), 5)
        self.bad(code_text("go x", "nothing"), 4)

    def test_bad_programs(self):
        cells = tuple([f"cell {name} 0" for name in "abcdefghi"])
        machines = tuple([f"machine {x}" for x in range(1, 8)])
        cases = [
            ("cell a 0\n", "codes", -1), (code_text(behind=machines), "codes", -1),
            (code_text(cells=cells, behind=()), "owners", -1), (code_text(cells=cells, behind=machines), "codes", -1),
            (code_text(cells=("cell a 0", "cell b 2")), "owners", 1), ("cell a 999999999\nmachine 0\n", "owners", 0),
            (code_text(*["rest"] * 61), "codes", 0), (code_text(behind=("machine 1", *["rest"] * 61)), "codes", 1),
            (code_text("rest", "set r0 1000001"), 0, 1), (code_text("set r0 -1000001"), 0, 0),
            (code_text(behind=("machine 1", "set r0 999999999")), 1, 0), (code_text("set r0 -999999999"), 0, 0)]
        for text, part, at in cases:
            with self.assertRaises(errors.BadProgram) as caught:
                assembled(text)
            self.assertEqual((caught.exception.part, caught.exception.at), (part, at))
        self.assertEqual(len(self.rows(*["rest"] * 60)), 60)
        self.bad(code_text(*["rest"] * 61, "nothing"), 65)


class Listed(unittest.TestCase):

    def test_each_form_of_row(self):
        code = (("set", 0, -5), ("copy", 1, 2), ("add", 0, 1, 7), ("take", 0, 0, 0), ("put", 1, 3), ("look", 4, 0),
                ("tell", 5), REST, ("same", 0, 1, 0), ("less", 2, 3, 13), ("go", 5), ("call", 5), ("back",))
        text = ("cell a 1\ncell b 0\nmachine 0\na:\nset r0 -5\ncopy r1 r2\nadd r0 r1 r7\ntake r0 r0 r0\nput b r3\nb:\n"
                "look r4 a\ntell r5\nrest\nsame r0 r1 a\nless r2 r3 c\ngo b\ncall b\nback\nc:\nmachine 1\n")
        self.assertEqual(listed(Program((1, 0), (code, ()))), text)

    def test_labels(self):
        program = Program((0,), ((("go", 2), ("go", 0)), (), (("go", 1),)))
        text = "cell a 0\nmachine 0\na:\ngo b\ngo a\nb:\nmachine 1\nmachine 2\ngo a\na:\n"
        self.assertEqual(listed(program), text)
        self.assertEqual(listed(Program((0,) * 8, ((),))), "".join([f"cell {k} 0\n" for k in "abcdefgh"]) + "machine 0\n")

    def test_more_than_twenty_six_labels(self):
        code = tuple([("go", at) for at in range(60, 0, -1)])
        names = list("abcdefghijklmnopqrstuvwxyz")
        names += ["a" + name for name in names] + ["b" + name for name in names[:8]]
        rows = ["cell a 0", "machine 0"]
        for at in range(60):
            rows.extend([names[at - 1] + ":"] if at > 0 else [])
            rows.append("go " + names[60 - at - 1])
        text = "\n".join(rows + [names[59] + ":", ""])
        self.assertEqual(listed(Program((0,), (code,))), text)
        self.assertEqual((names[25], names[26], names[51], names[52], names[59]), ("z", "aa", "az", "ba", "bh"))
        self.assertEqual(assembled(text), Program((0,), (code,)))

    def test_what_is_listed_is_assembled_to_the_program(self):
        for seed in range(120):
            program = chance_program(1 + seed % 7, 30, seed)
            self.assertEqual(assembled(listed(program)), program)
            if all([len(code) < 25 for code in program.codes]):
                rested = put_rests(program, waits_of(program))
                self.assertEqual(assembled(listed(rested)), rested)
        for row in ROWS:
            program = Program((1, 0), ((row, REST, REST, REST, REST), ()))
            self.assertEqual(assembled(listed(program)), program)
        all_labels = Program((0,), (tuple([("call", 60 - at) for at in range(60)]),) * 7)
        self.assertEqual(assembled(listed(all_labels)), all_labels)
