"""Promises 9.1 to 9.3: wires cut and laid, machines that fall and rise, lives and journals. Also 0.2 to 0.5."""

import unittest

from growalong import errors
from growalong.benches import Bench, replayed
from growalong.growing import bar, is_made, run_of, trees
from growalong.programs import Program
from growalong.records import Record, record_of_any_size
from growalong.runs import is_run
from growalong.webs import Web, full, hub, line, ring
from tests.made import numbers
from tests.odd import odd_things
from tests.slowbench import SlowBench, bench_seen, chance_program

TWO = full(2)
PUTS = Program((0, 1), ((("set", 0, 5), ("put", 0, 0), ("put", 0, 0), ("tell", 0)),
                        (("set", 0, 6), ("put", 1, 0), ("look", 1, 0), ("tell", 1))))


def perform(bench, step):
    """Does a step or a deed as steps() keeps it."""
    if step[0] in ("do", "come"):
        bench.step(step)
    else:
        getattr(bench, step[0])(step[1])


def performed(web, program, *steps):
    bench = Bench(web, program)
    for step in steps:
        perform(bench, step)
    return bench


def chance_bench(seed, many, deeds=5):
    """A bench behind steps and deeds that look like chance, and a slow one behind the same."""
    chance = numbers(seed)
    machines = 1 + seed % 4
    web = Web(machines, tuple([wire for wire in full(machines).wires if next(chance) % 4]))
    program = chance_program(machines, 14, seed)
    bench, slow = Bench(web, program), SlowBench(web, program)
    for _ in range(many):
        can = slow.can()
        if not can or next(chance) % deeds == 0:
            can = slow.deeds()
        step = can[next(chance) % len(can)]
        perform(bench, step)
        slow.perform(step)
        yield bench, slow


class Wires(unittest.TestCase):

    def test_cut(self):
        bench = performed(TWO, PUTS, ("do", 0), ("do", 0), ("do", 0))
        self.assertEqual(bench.letters((0, 1)), (0, 1))
        self.assertIsNone(bench.cut((0, 1)))
        self.assertEqual(bench.web(), Web(2, ((1, 0),)))
        self.assertEqual(bench.steps()[-1], ("cut", (0, 1)))
        self.assertNotIn(("come", 0, 1), bench.can())
        with self.assertRaises(errors.NoWire):
            bench.letters((0, 1))
        with self.assertRaises(errors.NoWire):
            bench.cut((0, 1))
        bench.step(("do", 1))
        bench.step(("do", 1))
        self.assertEqual((bench.letters((1, 0)), bench.diary(1)), ((2,), (2,)))

    def test_lay(self):
        bench = performed(TWO, PUTS, ("do", 0), ("do", 0), ("cut", (0, 1)), ("do", 0))
        self.assertIsNone(bench.lay((0, 1)))
        self.assertEqual((bench.letters((0, 1)), bench.web()), ((0, 1), TWO))
        self.assertEqual(bench.steps()[-1], ("lay", (0, 1)))
        with self.assertRaises(errors.NoWire):
            bench.lay((0, 1))
        bench.step(("come", 0, 1))
        self.assertEqual((bench.diary(1), bench.letters((1, 0))), ((0,), (0,)))

    def test_lay_in_the_order_of_the_diary(self):
        program = Program((0, 1, 2), tuple([(("put", x, 0),) for x in (0, 1, 2)]))
        bench = performed(line(3), program, ("do", 1), ("do", 0), ("do", 2), ("come", 2, 1), ("come", 0, 1))
        bench.lay((0, 2))
        bench.lay((2, 0))
        bench.cut((1, 0))
        bench.lay((1, 0))
        self.assertEqual(bench.diary(1), (0, 2, 1))
        self.assertEqual([bench.letters(wire) for wire in ((0, 2), (2, 0), (1, 0))], [(1,), (2,), (0, 2, 1)])

    def test_lay_between_machines_that_are_down(self):
        for down in ((0,), (1,), (0, 1)):
            bench = performed(TWO, PUTS, ("do", 0), ("do", 0), ("cut", (0, 1)), *[("fall", x) for x in down])
            bench.lay((0, 1))
            self.assertEqual(bench.letters((0, 1)), ())
            self.assertEqual(bench.web(), TWO)
        bench.rise(0)
        self.assertEqual(bench.letters((0, 1)), ())
        bench.step(("do", 0))
        bench.step(("do", 0))
        self.assertEqual((bench.diary(0), bench.letters((0, 1))), ((1,), ()))
        bench.rise(1)
        self.assertEqual((bench.letters((0, 1)), bench.letters((1, 0))), ((1,), ()))

    def test_no_wire(self):
        bench = performed(Web(3, ((0, 1),)), Program((0,), ((), (), ())))
        for thing in odd_things() + [(0, 0), (0, 3), (3, 0), (-1, 0), [0, 1], [1, 0], (1, 0, 0), (True, 0), (False, True),
                                     ("1", "0"), (1,), 0, None, {1: 0, 0: 1}, ((1, 0),)]:
            for method in (bench.cut, bench.lay):
                with self.assertRaises(errors.NoWire):
                    method(thing)
        with self.assertRaises(errors.NoWire):
            bench.cut((1, 0))
        with self.assertRaises(errors.NoWire):
            bench.lay((0, 1))
        self.assertEqual((bench.steps(), bench.web()), ([], Web(3, ((0, 1),))))


class FallAndRise(unittest.TestCase):

    def test_fall(self):
        bench = performed(TWO, PUTS, ("do", 0), ("do", 0), ("do", 1), ("do", 1), ("do", 0), ("do", 0))
        self.assertEqual([bench.letters(wire) for wire in TWO.wires], [(0, 2), (1,)])
        self.assertIsNone(bench.fall(0))
        self.assertEqual(bench.steps()[-1], ("fall", 0))
        # Letters to it are lost, those from it stay.
        self.assertEqual([bench.letters(wire) for wire in TWO.wires], [(0, 2), ()])
        self.assertEqual((bench.state(0), bench.told(0), bench.diary(0), bench.cells(0)), ("down", (5,), (), (0, 0)))
        self.assertEqual(bench.puts(), [(0, 0, 5), (1, 1, 6), (0, 0, 5)])
        # So are those that are sent to it while it is down.
        bench.step(("come", 0, 1))
        self.assertEqual((bench.diary(1), bench.letters((1, 0))), ((1, 0), ()))
        self.assertEqual(bench.can(), [("do", 1), ("come", 0, 1)])

    def test_rise(self):
        bench = performed(TWO, PUTS, ("do", 0), ("do", 0), ("do", 0), ("do", 0), ("do", 1), ("do", 1), ("come", 0, 1),
                          ("fall", 0))
        self.assertIsNone(bench.rise(0))
        self.assertEqual(bench.steps()[-1], ("rise", 0))
        self.assertEqual([method(0) for method in (bench.state, bench.row, bench.told, bench.diary, bench.cells)],
                         ["runs", 0, (5,), (), (0, 0)])
        # All that is in the other's diary comes, its own old put too, and what it had sent itself comes still.
        self.assertEqual((bench.letters((1, 0)), bench.letters((0, 1))), ((2, 0), (1,)))
        bench.step(("do", 0))
        bench.step(("do", 0))
        self.assertEqual((bench.diary(0), bench.puts()[-1], bench.letters((0, 1))), ((3,), (0, 0, 5), (1, 3)))
        bench.step(("come", 1, 0))
        bench.step(("come", 1, 0))
        self.assertEqual((bench.diary(0), bench.cells(0), bench.letters((0, 1))), ((3, 2, 0), (5, 6), (1, 3, 2, 0)))

    def test_what_was_told_stays_told(self):
        program = Program((0,), ((("set", 0, 3), ("tell", 0)),))
        bench = performed(full(1), program, ("do", 0), ("do", 0), ("fall", 0), ("rise", 0))
        self.assertEqual((bench.told(0), bench.outcome()), ((3,), None))
        bench.go(lambda steps: steps[0], 9)
        self.assertEqual(bench.outcome(), ((3, 3),))

    def test_a_fault_is_lost(self):
        program = Program((0,), ((("call", 0),), (("back",),)))
        bench = performed(TWO, program, ("do", 0), ("do", 1))
        self.assertEqual((bench.state(1), bench.remembered(0)), ("fault", (1,)))
        for x in (0, 1):
            bench.fall(x)
            bench.rise(x)
        self.assertEqual([(bench.state(x), bench.remembered(x)) for x in (0, 1)], [("runs", ())] * 2)

    def test_who_rises_gets_from_those_alone_that_are_up(self):
        program = Program((0, 1, 2), tuple([(("put", x, 0),) for x in (0, 1, 2)]))
        bench = performed(full(3), program, ("do", 0), ("do", 1), ("do", 2), ("fall", 0), ("fall", 1), ("rise", 0))
        self.assertEqual([bench.letters((x, 0)) for x in (1, 2)], [(), (2,)])
        self.assertEqual(bench.letters((0, 2)), (0,))
        bench.rise(1)
        self.assertEqual([bench.letters((x, 1)) for x in (0, 2)], [(), (2,)])

    def test_cells_may_hold_unlike_things_for_ever(self):
        program = Program((0,), ((("set", 0, 1), ("put", 0, 0), ("set", 0, 2), ("put", 0, 0)), ()))
        bench = performed(TWO, program, ("do", 0), ("do", 0), ("come", 0, 1), ("fall", 0), ("rise", 0), ("do", 0),
                          ("do", 0), ("come", 1, 0), ("do", 0), ("do", 0))
        bench.go(lambda steps: steps[-1], 99)
        self.assertEqual([bench.diary(x) for x in (0, 1)], [(1, 0, 2), (0, 1, 2)])
        bench = performed(TWO, program, ("do", 0), ("do", 0), ("come", 0, 1), ("fall", 0), ("rise", 0), ("do", 0),
                          ("do", 0), ("do", 0), ("do", 0), ("come", 1, 0))
        bench.go(lambda steps: steps[-1], 99)
        self.assertEqual([bench.cells(x) for x in (0, 1)], [(1,), (2,)])
        self.assertEqual(bench.can(), [])

    def test_no_machine_is_down_is_up(self):
        bench = performed(TWO, PUTS, ("fall", 1))
        for method in (bench.fall, bench.rise):
            for thing in odd_things() + [2, -1, True, False, "0", (0,), [0], None]:
                with self.assertRaises(errors.NoMachine):
                    method(thing)
        with self.assertRaises(errors.IsDown):
            bench.fall(1)
        with self.assertRaises(errors.IsUp):
            bench.rise(0)
        self.assertEqual(bench.steps(), [("fall", 1)])

    def test_chance_against_slow_ones(self):
        for seed in range(80):
            for bench, slow in chance_bench(seed, 70):
                self.assertEqual(bench_seen(bench), slow.seen())
                self.assertEqual(bench.web().wires, tuple(sorted(slow.letters)))

    def test_deeds_taken_back(self):
        for seed in range(40):
            seen = [None]
            for bench, _ in chance_bench(seed, 50, 3):
                seen.append((bench_seen(bench), bench.steps(), bench.lived()))
            other = bench.copy()
            while len(seen) > 2:
                seen.pop()
                bench.back()
                other.back()
                self.assertEqual((bench_seen(bench), bench.steps(), bench.lived()), seen[-1])
                self.assertEqual((bench_seen(other), other.steps(), other.lived()), seen[-1])

    def test_deeds_in_trying(self):
        for seed in range(10):
            for bench, slow in chance_bench(seed, 40, 3):
                pass
            steps = bench.steps()
            for deed in slow.deeds():
                bench.trying(lambda b: (perform(b, deed), b.back(), b.back(), b.back()))
                self.assertEqual((bench_seen(bench), bench.steps()), (slow.seen(), steps))


class Lives(unittest.TestCase):

    def test_at_the_beginning(self):
        bench = Bench(full(3), Program((0,), ((), (), ())))
        self.assertEqual(bench.lives(), [(0, ()), (1, ()), (2, ())])
        self.assertEqual(bench.lived(), (full(3), Record((), ((), (), ()))))

    def test_behind_falls_and_rises(self):
        bench = performed(TWO, PUTS, ("do", 0), ("do", 0), ("come", 0, 1), ("fall", 0))
        self.assertEqual(bench.lives(), [(0, (0,)), (1, (0,))])
        self.assertEqual(bench.lived(), (TWO, Record((0,), ((0,), (0,)))))
        bench.rise(0)
        self.assertEqual(bench.lives(), [(0, (0,)), (1, (0,)), (0, ())])
        for step in (("do", 0), ("do", 0), ("come", 1, 0), ("come", 0, 1)):
            bench.step(step)
        web, record = bench.lived()
        self.assertEqual(bench.lives(), [(0, (0,)), (1, (0, 1)), (0, (1, 0))])
        self.assertEqual(web, Web(3, ((0, 1), (1, 0), (1, 2), (2, 1))))
        self.assertEqual(record, Record((0, 2), ((0,), (0, 1), (1, 0))))
        bench.fall(1)
        bench.rise(1)
        self.assertEqual([x for x, _ in bench.lives()], [0, 1, 0, 1])
        bench.back()
        bench.back()
        bench.back()
        self.assertEqual(bench.lives(), [(0, (0,)), (1, (0,)), (0, (1, 0))])

    def test_wires_that_ever_were(self):
        bench = performed(Web(3, ((0, 1),)), Program((0,), ((), (), ())), ("cut", (0, 1)), ("lay", (2, 0)),
                          ("cut", (2, 0)), ("fall", 0), ("rise", 0))
        self.assertEqual(bench.lived()[0], Web(4, ((0, 1), (2, 0), (2, 3), (3, 1))))
        self.assertEqual(bench.web(), Web(3, ()))
        for _ in range(4):
            bench.back()
        self.assertEqual(bench.lived()[0], Web(3, ((0, 1),)))

    def test_what_lived_tells_has_a_run(self):
        for seed in range(40):
            earlier = []
            for bench, _ in chance_bench(seed, 60, 4):
                web, record = bench.lived()
                self.assertIs(is_made(web, record), True)
                earlier.append(record)
            # On the last web each moment's record has a run, too: lives that were not begun had seen nothing.
            for record in earlier:
                diaries = record.diaries + ((),) * (web.machines - len(record.diaries))
                self.assertIs(is_made(web, record_of_any_size(record.writers, diaries)), True)
            self.assertIsNone(bar(web, record))
            self.assertIsNotNone(trees(web, record))
            self.assertIs(is_run(web, record, run_of(web, record)), True)
            self.assertEqual(record.diaries, tuple([diary for _, diary in bench.lives()]))
            self.assertEqual([bench.lives()[life][0] for life in record.writers], [x for x, _, _ in bench.puts()])

    def test_more_machines_and_puts_than_a_constructor_lets(self):
        program = Program((0, 1, 2), tuple([(("put", x, 0), ("put", x, 0), ("go", 0)) for x in (0, 1, 2)]))
        bench = Bench(ring(3), program)
        chance = numbers(5)
        for turn in range(12):
            bench.go(lambda steps: steps[next(chance) % len(steps)], 25)
            bench.fall(turn % 3)
            bench.rise(turn % 3)
        web, record = bench.lived()
        self.assertGreater(web.machines, 7)
        self.assertGreater(len(record.writers), 30)
        self.assertEqual((web.machines, len(record.diaries)), (15, 15))
        self.assertIs(is_run(web, record, run_of(web, record)), True)


class Journals(unittest.TestCase):

    def bad(self, text, at, web=TWO, program=PUTS):
        with self.assertRaises(errors.BadText) as caught:
            replayed(web, program, text)
        self.assertEqual(caught.exception.line, at)

    def test_each_form(self):
        bench = performed(TWO, PUTS, ("do", 0), ("do", 0), ("come", 0, 1), ("cut", (1, 0)), ("lay", (1, 0)), ("fall", 0),
                          ("rise", 0))
        text = "do 0\ndo 0\ncome 0 1\ncut 1 0\nlay 1 0\nfall 0\nrise 0\n"
        self.assertEqual(bench.journal(), text)
        again = replayed(TWO, PUTS, text)
        self.assertIs(type(again), Bench)
        self.assertEqual((bench_seen(again), again.steps(), again.journal()), (bench_seen(bench), bench.steps(), text))
        bench.back()
        self.assertEqual(bench.journal(), text[:-7])
        self.assertEqual(Bench(TWO, PUTS).journal(), "")
        self.assertEqual(bench_seen(replayed(TWO, PUTS, "")), bench_seen(Bench(TWO, PUTS)))

    def test_a_journal_leads_to_just_the_same(self):
        for seed in range(40):
            seen = []
            for bench, _ in chance_bench(seed, 40):
                seen.append((bench_seen(bench), bench.steps(), bench.lived()))
            lines = bench.journal().split("\n")
            self.assertEqual(len(lines), 41)
            web = self.first_web(seed)
            for many in (40, 20, 1):
                again = replayed(web, bench.program(), "".join([row + "\n" for row in lines[:many]]))
                self.assertEqual((bench_seen(again), again.steps(), again.lived()), seen[many - 1])
                while again.steps():
                    again.back()
                self.assertEqual(again.web(), web)

    def first_web(self, seed):
        for bench, _ in chance_bench(seed, 1):
            bench.back()
            return bench.web()

    def test_other_machines(self):
        for text in ("", "do 0\n", None, 3):
            with self.assertRaises(errors.OtherMachines):
                replayed(full(3), PUTS, text)

    def test_no_string(self):
        for thing in odd_things() + [["do 0\n"], ("do 0\n",), b"do 0\n", 0]:
            if not isinstance(thing, str):
                self.bad(thing, 0)

    def test_lines_without_such_a_form(self):
        wrong = ["", " ", "do", "do ", "do  0", " do 0", "do 0 ", "do\t0", "do 00", "do 01", "do -0", "do +0", "do -1",
                 "do 0 1", "do x", "do 0.", "Do 0", "DO 0", "d 0", "come 0", "come 0 1 0", "come 0  1", "come 0,1", "come 01",
                 "cut 0", "cut (0, 1)", "cut 0 1 1", "lay 0", "lay 1 0 0", "fall", "fall 0 1", "rise", "rise 0 0", "go 0",
                 "0 do", "do 0000000000", "do 1234567890", "do0", "do 0|", "undo", "back", "do _0", "do 1_0"]
        for row in wrong:
            self.bad(row + "\n", 1)
            self.bad("do 0\ndo 0\n" + row + "\ndo 0\n", 3)
            self.bad("do 0\n" + row + "\nnothing\n", 2)

    def test_lines_that_tell_what_cannot_be_done(self):
        wrong = ["do 2", "do 9", "do 999999999", "come 0 1", "come 1 0", "come 0 0", "come 0 2", "cut 0 0", "cut 0 2",
                 "cut 999999999 0", "lay 0 1", "lay 1 0", "lay 0 0", "lay 2 0", "lay 0 2", "rise 0", "rise 1", "rise 2",
                 "fall 2", "fall 999999999"]
        for row in wrong:
            self.bad(row + "\n", 1)
            self.bad("do 0\n" + row + "\n" + row + "\n", 2)
        for text, at in (("fall 0\nfall 0\n", 2), ("fall 0\ndo 0\n", 2), ("cut 0 1\ncut 0 1\n", 2), ("do 0\n" * 5, 5),
                         ("do 0\ndo 0\ncome 0 1\ncome 0 1\n", 4), ("fall 1\nrise 1\nrise 1\n", 3),
                         ("do 0\ndo 0\ncut 0 1\ncome 0 1\n", 4)):
            self.bad(text, at)

    def test_what_stands_behind_the_last_line_feed(self):
        self.bad("do 0", 1)
        self.bad("do 0\ndo 0", 2)
        self.bad("do 0\n ", 2)
        self.bad("do 0\nnothing", 2)
        self.bad("nothing\ndo 0", 1)
        self.bad("\n", 1)
        self.bad("a" * 40000, 1)
        self.bad("\n" * 40000, 1)

    def test_long_texts(self):
        program = Program((0,), ((("go", 0),),))
        self.assertEqual(len(replayed(full(1), program, "do 0\n" * 8000).steps()), 8000)
        bench = Bench(hub(2), Program((0,), ((("put", 0, 0), ("go", 0)), ())))
        bench.go(lambda steps: steps[-1], 6000)
        self.assertGreater(len(bench.journal()), 40000)
        again = replayed(hub(2), bench.program(), bench.journal())
        self.assertEqual(bench_seen(again), bench_seen(bench))

    def test_breaks_do_not_matter(self):
        bench = performed(TWO, PUTS)
        bench.set_break(0, 0)
        bench.step(("do", 0))
        self.assertEqual(bench.journal(), "do 0\n")
        self.assertEqual(replayed(TWO, PUTS, "do 0\n").breaks(), [])
