"""Promises 13.1 and 13.2: the desk. Also 0.2 to 0.5, as they speak of it."""

import unittest

from growalong import errors
from growalong.assembling import listed
from growalong.benches import Bench
from growalong.desks import Desk
from growalong.growing import bar
from growalong.outcomes import outcomes
from growalong.plain import not_plain
from growalong.programs import Program
from growalong.records import Record
from growalong.texts import record_text, web_text
from growalong.webs import Web, full, line, ring
from tests.made import numbers
from tests.odd import odd_things
from tests.slowbench import chance_program

TWO = full(2)
CROSSED = Program((0, 1), ((("set", 0, 1), ("put", 0, 0), ("look", 1, 1), ("tell", 1)),
                           (("set", 0, 1), ("put", 1, 0), ("look", 1, 0), ("tell", 1))))
KEEPING = ("web w machines 2|wire 0 1|wire 1 0|", "web one machines 2|wire 0 1|", "web three machines 3|",
           "code c " + listed(CROSSED).replace("\n", "|"), "record r writers 0 1|diary 0 1|diary 1 0|",
           "record s writers 0|diary 0|diary 0|", "bench w c b")
# All that tells what a desk with these things has.
QUESTIONS = ("state b 0", "state b 1", "cells b 0", "cells b 1", "told b 0", "told b 1", "diary b 0", "diary b 1",
             "letters b 0 1", "letters b 1 0", "journal b", "outcome b", "made w r", "made one r", "made one s",
             "outcomes w c", "outcomes one c", "plain w c", "within w one", "within one w")


def barred(text):
    return text.replace("\n", "|")


def desk_with(*lines):
    desk = Desk()
    for row in lines:
        if desk.tell(row) != "ok":
            raise AssertionError(row)
    return desk


class DeskTest(unittest.TestCase):

    def raised(self, desk, row, error, **fields):
        """A line raises this, and changes nothing."""
        earlier = self.asked(desk)
        with self.assertRaises(error) as caught:
            desk.tell(row)
        self.assertIs(type(caught.exception), error, row)
        self.assertEqual(vars(caught.exception), fields)
        self.assertEqual(self.asked(desk), earlier)

    def asked(self, desk):
        return [self.answer(desk, row) for row in QUESTIONS] + [desk.undoable()]

    def answer(self, desk, row):
        try:
            return desk.tell(row)
        except errors.GrowError as error:
            return (type(error).__name__, vars(error))


class Kept(DeskTest):

    def test_a_new_one(self):
        desk = Desk()
        self.assertEqual(desk.undoable(), 0)
        self.raised(desk, "undo", errors.NothingDone)
        self.raised(desk, "journal b", errors.NoName, name="b")

    def test_each_is_kept(self):
        desk = Desk()
        for many, row in enumerate(KEEPING, 1):
            self.assertEqual(desk.tell(row), "ok")
            self.assertEqual(desk.undoable(), many)
        self.assertEqual(desk.tell("state b 0"), "runs")
        self.assertEqual(desk.undoable(), len(KEEPING))

    def test_elder_ones_are_replaced(self):
        desk = desk_with(*KEEPING)
        self.assertEqual((desk.tell("within w one"), desk.tell("outcomes w c")), ("no", "4"))
        desk.tell("web w machines 2|")
        self.assertEqual((desk.tell("within w one"), desk.tell("outcomes w c")), ("yes", "1"))
        desk.tell("record r writers|diary|diary|")
        self.assertEqual(desk.tell("made w r"), "yes")
        desk.tell("code c cell x 0|machine 0|machine 1|tell r0|")
        self.assertEqual(desk.tell("outcomes one c"), "1")
        # A bench goes on with what it was made with.
        self.assertEqual((desk.tell("state b 0"), desk.tell("letters b 1 0")), ("runs", "none"))
        desk.tell("bench w c b")
        self.assertEqual(desk.tell("state b 0"), "end")
        self.raised(desk, "letters b 1 0", errors.NoWire)

    def test_names_of_each_sort_for_themselves(self):
        desk = desk_with("web a machines 2|wire 0 1|", "code a " + barred(listed(CROSSED)), "record a writers 1|diary|diary 0|",
                         "bench a a a", "bench a a undo", "web undo machines 2|")
        self.assertEqual(desk.tell("made a a"), "yes")
        self.assertEqual(desk.tell("do a 0"), "ok")
        self.assertEqual((desk.tell("journal a"), desk.tell("journal undo"), desk.tell("within undo a")),
                         ("do 0|", "none", "yes"))
        self.raised(desk, "made a undo", errors.NoName, name="undo")
        self.raised(desk, "outcomes a undo", errors.NoName, name="undo")

    def test_texts_with_bars(self):
        for web in (ring(4), Web(1, ()), full(7), line(5)):
            desk = desk_with("web x " + barred(web_text(web)), "web y machines 7|")
            self.assertEqual(desk.tell("within x x"), "yes")
        for seed in range(20):
            program = chance_program(2, 20, seed)
            desk = desk_with("web w machines 2|wire 1 0|", "code c " + barred(listed(program)), "bench w c b")
            self.assertEqual(desk.tell("cells b 0"), ",".join(["0"] * len(program.owners)))
        record = Record((0, 1), ((0, 1), (1, 0), (0, 1), (1, 0)))
        desk = desk_with("web w " + barred(web_text(ring(4))), "record r " + barred(record_text(record)))
        self.assertEqual(desk.tell("made w r"), "0: 2")


class Benches(DeskTest):

    def test_deeds(self):
        desk = desk_with(*KEEPING)
        for row in ("do b 0", "do b 0", "come b 0 1", "cut b 1 0", "lay b 1 0", "fall b 1", "rise b 1"):
            self.assertEqual(desk.tell(row), "ok")
        self.assertEqual(desk.tell("journal b"), "do 0|do 0|come 0 1|cut 1 0|lay 1 0|fall 1|rise 1|")
        self.assertEqual((desk.tell("letters b 0 1"), desk.tell("diary b 1"), desk.tell("diary b 0")), ("0", "none", "0"))

    def test_questions(self):
        desk = desk_with(*KEEPING)
        self.assertEqual([desk.tell(row) for row in QUESTIONS],
                         ["runs", "runs", "0,0", "0,0", "none", "none", "none", "none", "none", "none", "none", "open",
                          "yes", "1: 0", "yes", "4", "2", "no", "no", "yes"])
        for row in ("do b 1", "do b 1", "do b 0", "do b 0", "come b 1 0"):
            desk.tell(row)
        self.assertEqual([desk.tell(row) for row in QUESTIONS[:12]],
                         ["runs", "runs", "1,1", "0,1", "none", "none", "1,0", "0", "1,0", "none",
                          "do 1|do 1|do 0|do 0|come 1 0|", "open"])
        for row in ("do b 0", "do b 0", "do b 1", "do b 1"):
            desk.tell(row)
        self.assertEqual([desk.tell(row) for row in ("state b 0", "told b 0", "told b 1", "outcome b")],
                         ["end", "1", "0", "1 0"])
        desk.tell("fall b 0")
        self.assertEqual([desk.tell(row) for row in ("state b 0", "told b 0", "diary b 0", "outcome b")],
                         ["down", "1", "none", "open"])

    def test_states_and_told(self):
        text = "cell a 0|machine 0|tell r0|set r0 -3|tell r0|machine 1|back|machine 2|machine 3|look r0 a|"
        desk = desk_with("web w machines 4|", "code c " + text, "bench w c b", "do b 1", "do b 0", "do b 0", "do b 0")
        self.assertEqual([desk.tell(f"state b {x}") for x in range(4)], ["end", "fault", "end", "runs"])
        self.assertEqual((desk.tell("told b 0"), desk.tell("outcome b")), ("0,-3", "open"))
        desk = desk_with("web w machines 3|", "code c cell a 0|machine 0|put a r0|rest|machine 1|tell r1|tell r1|machine 2|",
                         "bench w c b", "do b 0", "do b 1", "do b 1")
        self.assertEqual(desk.tell("state b 0"), "rests")
        desk = desk_with("web w machines 3|", "code c cell a 0|machine 0|machine 1|tell r1|tell r1|machine 2|", "bench w c b",
                         "do b 1", "do b 1")
        self.assertEqual(desk.tell("outcome b"), "none 0,0 none")

    def test_against_a_bench(self):
        for seed in range(25):
            machines = 1 + seed % 3
            web, program, chance = full(machines), chance_program(machines, 12, seed), numbers(seed)
            desk = desk_with("web w " + barred(web_text(web)), "code c " + barred(listed(program)), "bench w c b")
            bench = Bench(web, program)
            for _ in range(40):
                can = bench.can()
                if not can:
                    break
                step = can[next(chance) % len(can)]
                bench.step(step)
                self.assertEqual(desk.tell(f"{step[0]} b " + " ".join([str(x) for x in step[1:]])), "ok")
            for x in range(machines):
                self.assertEqual(desk.tell(f"state b {x}"), bench.state(x))
                for word in ("cells", "told", "diary"):
                    told = ",".join([str(k) for k in getattr(bench, word)(x)]) or "none"
                    self.assertEqual(desk.tell(f"{word} b {x}"), told)
            self.assertEqual(desk.tell("journal b"), barred(bench.journal()) or "none")
            self.assertEqual(desk.undoable(), 3 + len(bench.steps()))


class Undo(DeskTest):

    def test_down_to_the_beginning(self):
        lines = [*KEEPING, "do b 0", "web w machines 2|", "do b 0", "come b 0 1", "bench one c b", "do b 1", "record r writers|diary|diary|",
                 "cut b 0 1", "code c cell a 1|machine 0|machine 1|tell r0|", "fall b 1", "bench w c b", "do b 1",
                 "web new machines 1|", "lay b 0 1", "fall b 0", "rise b 0", "lay b 1 0"]
        desk, seen = Desk(), []
        for many, row in enumerate(lines):
            seen.append(self.asked(desk))
            self.assertEqual(desk.undoable(), many)
            self.assertEqual(desk.tell(row), "ok")
        while seen:
            self.assertEqual(desk.tell("undo"), "ok")
            self.assertEqual(self.asked(desk), seen.pop())
        for _ in range(2):
            self.raised(desk, "undo", errors.NothingDone)
        self.raised(desk, "state b 0", errors.NoName, name="b")

    def test_by_turns(self):
        desk = desk_with(*KEEPING)
        for _ in range(3):
            self.assertEqual([desk.tell(row) for row in ("do b 0", "undo", "do b 1", "do b 1", "undo")], ["ok"] * 5)
        self.assertEqual((desk.tell("journal b"), desk.undoable()), ("do 1|do 1|do 1|", len(KEEPING) + 3))

    def test_an_elder_bench_comes_back_as_it_was(self):
        desk = desk_with(*KEEPING, "do b 0", "do b 0", "bench w c b", "do b 1")
        self.assertEqual(desk.tell("journal b"), "do 1|")
        desk.tell("undo")
        self.assertEqual(desk.tell("journal b"), "none")
        desk.tell("undo")
        self.assertEqual(desk.tell("journal b"), "do 0|do 0|")
        desk.tell("undo")
        self.assertEqual(desk.tell("journal b"), "do 0|")

    def test_questions_are_nothing_that_is_taken_back(self):
        desk = desk_with("web w machines 2|")
        desk.tell("within w w")
        self.assertEqual(desk.undoable(), 1)
        desk.tell("undo")
        self.raised(desk, "within w w", errors.NoName, name="w")

    def test_two_benches(self):
        desk = desk_with(*KEEPING, "bench w c a", "do a 0", "do b 1", "do a 0", "undo", "undo")
        self.assertEqual((desk.tell("journal a"), desk.tell("journal b")), ("do 0|", "none"))

    def test_desks_are_apart(self):
        one, other = desk_with(*KEEPING), Desk()
        self.assertEqual(other.undoable(), 0)
        self.raised(other, "within w w", errors.NoName, name="w")
        self.assertTrue(one == one)
        for thing in odd_things() + [other, desk_with(*KEEPING)]:
            self.assertFalse(one == thing)


class Wrong(DeskTest):

    def test_no_line(self):
        desk = desk_with(*KEEPING)
        lines = [
            "", " ", "x", "web", "web ", "web w", "web w ", "web  machines 2|", "web W machines 2|", "web w1 machines 2|",
            "web abcdefghi machines 2|", "web\tw machines 2|", " web w machines 2|", "webs w machines 2|", "Web w machines 2|",
            "code", "code c", "code c ", "code C x", "record", "record r", "record r ", "bench", "bench w", "bench w c",
            "bench w c ", "bench w c b ", "bench w c b b", "bench  w c b", "bench w c B", "bench w c b1", "bench w c 0",
            "bench w C b", "do", "do b", "do b ", "do b x", "do b 00", "do b 01", "do b -1", "do b +0", "do b 1234567890",
            "do b 0 0", "do  b 0", "do b  0", "do b 0 ", " do b 0", "do B 0", "do 0 b", "do b 0|", "Do b 0", "come b 0",
            "come b 0 1 0", "come b 0,1", "come b (0, 1)", "cut b 0", "cut b 0 1 2", "lay b", "lay b 0", "fall b", "fall b 0 1",
            "rise b", "rise b x", "undo ", " undo", "undo 1", "undo b", "Undo", "state b", "state b 0 0", "state b x", "cells",
            "cells b", "told b", "told b -0", "diary b", "letters b 0", "letters b", "letters b 0 1 1", "journal",
            "journal b 0", "journal b ", "outcome", "outcome b b", "made w", "made", "made w r r", "made w  r", "outcomes w",
            "outcomes w c 1", "plain w", "plain", "plain w c c", "within w", "within w w w", "within", "steps b", "registers b 0",
            "puts b", "back b", "undoable", "do b 0\t", "web w machines 2\n", "do b 0\n", "\n", "undo\n", "\nundo",
            "web w machines 2|wire 0 1|\n", "do b 0\ndo b 0"]
        for row in odd_things() + lines:
            self.raised(desk, row, errors.NoLine)

    def test_texts_that_are_wrong(self):
        desk = desk_with(*KEEPING)
        for row, at in (("web w |", 1), ("web w machines 2", 1), ("web w machines 2|wire 0 1", 2), ("web w machines 02|", 1),
                        ("web w  machines 2|", 1), ("web w machines 2|wire 0  1|", 2), ("web w machines\t2|", 1), ("web w x", 1),
                        ("code c machine 0|", 1), ("code c cell a 0|machine 0|go x|", 3), ("code c  ", 1),
                        ("record r diary|", 1), ("record r writers|diary ", 2), ("web nothing wire 0 1|", 1)):
            self.raised(desk, row, errors.BadText, line=at)
        self.raised(desk, "web w machines 0|", errors.BadWeb, part="machines")
        self.raised(desk, "web new machines 2|wire 0 1|wire 0 1|", errors.BadWeb, part=1)
        self.raised(desk, "code c cell a 1|machine 0|", errors.BadProgram, part="owners", at=0)
        self.raised(desk, "code c cell a 0|machine 0|set r0 1000001|", errors.BadProgram, part=0, at=0)
        self.raised(desk, "record r writers 0|diary|", errors.BadRecord, part="put", at=0)
        self.raised(desk, "web w " + "a" * 39000, errors.BadText, line=1)
        self.raised(desk, "within new w", errors.NoName, name="new")

    def test_no_name(self):
        desk = desk_with(*KEEPING)
        for row, name in (("bench x y z", "x"), ("bench w y z", "y"), ("bench b c z", "b"), ("bench w w z", "w"),
                          ("bench c c c", "c"), ("do x 0", "x"), ("do w 0", "w"), ("come x 9 9", "x"), ("cut c 0 1", "c"),
                          ("lay r 0 1", "r"), ("fall x 0", "x"), ("rise x 0", "x"), ("state w 0", "w"), ("cells x 99", "x"),
                          ("told x 0", "x"), ("diary x 0", "x"), ("letters x 0 0", "x"), ("journal w", "w"),
                          ("outcome c", "c"), ("made r r", "r"), ("made w w", "w"), ("made x y", "x"), ("outcomes w w", "w"),
                          ("outcomes c w", "c"), ("plain b c", "b"), ("plain w b", "b"), ("within w c", "c"),
                          ("within x w", "x"), ("within three x", "x")):
            self.raised(desk, row, errors.NoName, name=name)

    def test_what_functions_and_methods_raise(self):
        desk = desk_with(*KEEPING, "code endless cell a 0|machine 0|top:|put a r0|go top|machine 1|")
        for row, error in (("bench three c b", errors.OtherMachines), ("bench three c new", errors.OtherMachines),
                           ("do b 2", errors.NoStep), ("do b 999999999", errors.NoStep), ("come b 0 1", errors.NoStep),
                           ("come b 0 0", errors.NoStep), ("cut b 0 0", errors.NoWire), ("cut b 0 2", errors.NoWire),
                           ("lay b 0 1", errors.NoWire), ("lay b 1 1", errors.NoWire), ("fall b 2", errors.NoMachine),
                           ("rise b 2", errors.NoMachine), ("rise b 0", errors.IsUp), ("state b 2", errors.NoMachine),
                           ("cells b 9", errors.NoMachine), ("told b 2", errors.NoMachine), ("diary b 2", errors.NoMachine),
                           ("letters b 0 0", errors.NoWire), ("letters b 5 6", errors.NoWire),
                           ("made three r", errors.OtherMachines), ("outcomes three c", errors.OtherMachines),
                           ("plain three c", errors.OtherMachines), ("within w three", errors.OtherMachines)):
            self.raised(desk, row, error)
        self.raised(desk, "outcomes w endless", errors.TooMany, most=5000)
        self.raised(desk, "plain w endless", errors.TooMany, most=5000)
        self.raised(desk, "letters new 0 1", errors.NoName, name="new")
        desk.tell("fall b 1")
        self.raised(desk, "fall b 1", errors.IsDown)
        self.raised(desk, "do b 1", errors.NoStep)

    def test_answers_of_functions(self):
        for seed in range(15):
            program = chance_program(2, 4, seed)
            desk = desk_with(*KEEPING, "code d " + barred(listed(program)))
            for name, web in (("w", TWO), ("one", Web(2, ((0, 1),)))):
                told = self.answer(desk, f"outcomes {name} d")
                try:
                    self.assertEqual(told, str(len(outcomes(web, program))))
                    self.assertEqual(desk.tell(f"plain {name} d"), "yes" if not_plain(web, program) is None else "no")
                except errors.TooMany:
                    self.assertEqual(told, ("TooMany", {"most": 5000}))
        record = Record((0, 2), ((0, 1), (1, 0), (1,)))
        desk = desk_with("web w machines 3|", "record r " + barred(record_text(record)))
        put, lot = bar(Web(3, ()), record)
        self.assertEqual(desk.tell("made w r"), f"{put}: " + ",".join([str(x) for x in lot]))
