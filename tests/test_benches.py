"""Promises 8.1 to 8.3: the bench. Also 0.2 to 0.5, as they speak of it."""

import unittest

from growalong import errors
from growalong.benches import Bench
from growalong.programs import Program
from growalong.webs import Web, full, hub, line, ring
from tests.made import numbers
from tests.odd import odd_things
from tests.slowbench import FORMS, SlowBench, bench_seen, chance_program

TWO = full(2)
REST = ("rest",)
# The machine 0 puts 7 and 8, looks and tells; the machine 1 puts 9 and rests.
BUSY = Program((0, 1), ((("set", 0, 7), ("put", 0, 0), ("set", 0, 8), ("put", 0, 0), ("look", 1, 1), ("tell", 1)),
                        (("set", 2, 9), ("put", 1, 2), REST, ("look", 3, 0), ("tell", 3))))
EACH = (Bench.state, Bench.row, Bench.registers, Bench.remembered, Bench.told, Bench.cells, Bench.diary)


def alone(*rows):
    """A bench of one machine with one cell and these rows."""
    return Bench(full(1), Program((0,), (rows,)))


def first(steps):
    return steps[0]


def last(steps):
    return steps[-1]


def led_bench(web, program, steps):
    bench = Bench(web, program)
    for step in steps:
        bench.step(step)
    return bench


def chosen(seed):
    chance = numbers(seed)
    return lambda steps: steps[next(chance) % len(steps)]


class Benches(unittest.TestCase):

    def test_a_new_one(self):
        for web, program in ((TWO, BUSY), (ring(4), chance_program(4, 8, 3)), (full(1), Program((0,) * 8, ((),)))):
            bench = Bench(web, program)
            for x, code in enumerate(program.codes):
                told = [method(bench, x) for method in EACH]
                self.assertEqual(told, ["runs" if code else "end", 0, (0,) * 8, (), (), (0,) * len(program.owners), ()])
            self.assertEqual((bench.steps(), bench.puts(), bench.breaks()), ([], [], []))
            self.assertEqual(bench.web(), web)
            self.assertEqual(bench.program(), program)
            self.assertEqual({bench.letters(wire) for wire in web.wires}, {()} if web.wires else set())

    def test_other_machines(self):
        for web in (full(1), full(3)):
            with self.assertRaises(errors.OtherMachines):
                Bench(web, BUSY)

    def test_each_row_by_itself(self):
        cases = [
            ([("set", 7, -5)], (0, 0, 0, 0, 0, 0, 0, -5)),
            ([("set", 1, 3), ("copy", 2, 1)], (0, 3, 3, 0, 0, 0, 0, 0)),
            ([("set", 1, 3), ("set", 2, 4), ("add", 0, 1, 2)], (7, 3, 4, 0, 0, 0, 0, 0)),
            ([("set", 1, 3), ("set", 2, 4), ("take", 0, 1, 2)], (-1, 3, 4, 0, 0, 0, 0, 0)),
            ([("set", 1, 3), ("add", 1, 1, 1)], (0, 6, 0, 0, 0, 0, 0, 0)),
            ([("set", 1, 3), ("put", 0, 1), ("look", 5, 0)], (0, 3, 0, 0, 0, 3, 0, 0)),
            ([("look", 0, 0), REST], (0,) * 8),
        ]
        for rows, registers in cases:
            bench = alone(*rows)
            for at in range(len(rows)):
                self.assertEqual(bench.row(0), at)
                bench.step(("do", 0))
            self.assertEqual(bench.registers(0), registers)
            self.assertEqual((bench.state(0), bench.row(0), bench.told(0)), ("end", len(rows), ()))

    def test_rows_that_go(self):
        cases = [
            ([("same", 0, 1, 2)], 2), ([("set", 0, 1), ("same", 0, 1, 0)], 2), ([("same", 3, 3, 0)], 0),
            ([("less", 0, 1, 0)], 1), ([("set", 1, 1), ("less", 0, 1, 0)], 0), ([("set", 1, -1), ("less", 0, 1, 0)], 2),
            ([("go", 3)], 3), ([("go", 0)], 0), ([("call", 2)], 2), ([("call", 1)], 1)]
        for rows, row in cases:
            bench = alone(*rows, REST, ("tell", 0))
            for _ in rows:
                bench.step(("do", 0))
            self.assertEqual(bench.row(0), row)

    def test_calls(self):
        bench = alone(("call", 3), ("tell", 0), ("go", 5), ("call", 4), ("back",))
        rows, remembered = [], []
        while bench.can():
            bench.step(("do", 0))
            rows.append(bench.row(0))
            remembered.append(bench.remembered(0))
        self.assertEqual(rows, [3, 4, 4, 1, 2, 5])
        self.assertEqual(remembered, [(1,), (1, 4), (1,), (), (), ()])
        self.assertEqual(bench.state(0), "end")
        # A call in the last row remembers the end, and a jump leaves what is remembered.
        bench = alone(("go", 2), ("back",), ("call", 1))
        self.assertEqual((bench.go(first, 9), bench.state(0), bench.remembered(0)), (3, "end", ()))
        bench = alone(("call", 2), REST, ("go", 3))
        self.assertEqual((bench.go(first, 9), bench.state(0), bench.remembered(0)), (2, "end", (1,)))

    def test_told(self):
        bench = alone(("tell", 0), ("set", 0, 4), ("tell", 0), ("tell", 0))
        bench.go(first, 3)
        self.assertEqual((bench.told(0), bench.outcome()), ((0, 4), None))
        bench.step(("do", 0))
        self.assertEqual((bench.told(0), bench.outcome()), ((0, 4, 4), ((0, 4, 4),)))

    def test_puts_are_numbered_written_and_sent(self):
        bench = led_bench(TWO, BUSY, [("do", 1), ("do", 0), ("do", 1), ("do", 0)])
        self.assertEqual(bench.puts(), [(1, 1, 9), (0, 0, 7)])
        self.assertEqual([bench.diary(x) for x in (0, 1)], [(1,), (0,)])
        self.assertEqual([bench.cells(x) for x in (0, 1)], [(7, 0), (0, 9)])
        self.assertEqual([bench.letters(wire) for wire in TWO.wires], [(1,), (0,)])
        bench.step(("do", 0))
        bench.step(("do", 0))
        self.assertEqual(bench.letters((0, 1)), (1, 2))
        bench.step(("come", 0, 1))
        self.assertEqual((bench.letters((0, 1)), bench.letters((1, 0))), ((2,), (0, 1)))
        self.assertEqual((bench.diary(1), bench.cells(1)), ((0, 1), (7, 9)))
        bench.step(("come", 0, 1))
        bench.step(("come", 1, 0))
        self.assertEqual((bench.diary(1), bench.cells(1)), ((0, 1, 2), (8, 9)))
        self.assertEqual((bench.diary(0), bench.cells(0)), ((1, 2, 0), (8, 9)))
        bench.step(("come", 1, 0))
        self.assertEqual((bench.diary(0), bench.cells(0), bench.letters((1, 0))), ((1, 2, 0), (8, 9), (2,)))
        self.assertEqual(bench.puts(), [(1, 1, 9), (0, 0, 7), (0, 0, 8)])

    def test_letters_go_on_over_all_wires_from_who_writes(self):
        program = Program((1,), ((), (("put", 0, 0),), (), ()))
        bench = led_bench(hub(4), program, [("do", 1), ("come", 1, 0)])
        self.assertEqual({wire: bench.letters(wire) for wire in bench.web().wires},
                         {(0, 1): (0,), (0, 2): (0,), (0, 3): (0,), (1, 0): (), (2, 0): (), (3, 0): ()})

    def test_rests(self):
        program = Program((0,), ((REST, ("put", 0, 0), REST), (REST, REST), (REST,)))
        bench = Bench(line(3), program)
        self.assertEqual([bench.state(x) for x in (0, 1, 2)], ["runs"] * 3)
        bench.go(lambda steps: ("do", 0), 2)
        self.assertEqual([bench.state(x) for x in (0, 1, 2)], ["rests", "runs", "runs"])
        self.assertEqual(bench.can(), [("do", 1), ("do", 2), ("come", 0, 1)])
        with self.assertRaises(errors.NoStep):
            bench.step(("do", 0))
        bench.step(("come", 0, 1))
        self.assertEqual([bench.state(x) for x in (0, 1, 2)], ["rests", "rests", "runs"])
        bench.step(("come", 1, 2))
        self.assertEqual([bench.state(x) for x in (0, 1, 2)], ["runs"] * 3)
        for x in (0, 1, 1, 2):
            bench.step(("do", x))
        self.assertEqual([bench.state(x) for x in (0, 1, 2)], ["end"] * 3)
        self.assertEqual(bench.outcome(), ((), (), ()))

    def test_a_rest_while_one_is_down(self):
        program = Program((0,), ((REST, ("put", 0, 0), REST), ()))
        bench = Bench(TWO, program)
        bench.fall(1)
        self.assertEqual(bench.state(0), "runs")
        bench.go(first, 2)
        self.assertEqual(bench.state(0), "rests")
        bench.rise(1)
        self.assertEqual((bench.state(0), bench.letters((0, 1))), ("rests", (0,)))
        bench.step(("come", 0, 1))
        self.assertEqual(bench.state(0), "runs")
        bench.fall(1)
        self.assertEqual(bench.state(0), "rests")

    def test_sums_out_of_bounds(self):
        double = [("set", 0, 10 ** 6)] + [("add", 0, 0, 0)] * 20
        below = [("set", 0, -10 ** 6)] + [("add", 0, 0, 0)] * 20
        for rows in (double, below):
            bench = alone(*rows)
            self.assertEqual(bench.go(first, 100), 21)
            self.assertEqual((bench.state(0), bench.row(0)), ("fault", 20))
            self.assertEqual(abs(bench.registers(0)[0]), 10 ** 6 * 2 ** 19)
            self.assertEqual(bench.steps(), [("do", 0)] * 21)
            self.assertEqual((bench.can(), bench.outcome()), ([], None))

    def test_sums_at_the_bounds(self):
        # A hundred times a hundred times a hundred times a million, without and with one more.
        grow = [("set", 0, 10 ** 6), ("set", 1, 0), ("set", 2, 1000), ("set", 3, 0), ("set", 4, 1),
                ("add", 1, 1, 0), ("add", 3, 3, 4), ("less", 3, 2, 5)]
        # Each turn adds a million to what was, a thousand times, and again of what came of it.
        again = [("copy", 0, 1), ("set", 1, 0), ("set", 3, 0), ("add", 1, 1, 0), ("add", 3, 3, 4), ("less", 3, 2, 11)]
        for sign in (1, -1):
            rows = [("set", 0, sign * 10 ** 6)] + grow[1:] + again
            for end, state in ((("take", 5, 1, 7), "end"), (("add", 5, 1, 6), "fault"), (("take", 5, 1, 6), "end")):
                more = [("set", 6, sign), end]
                bench = alone(*rows, *more)
                bench.go(first, 10000)
                self.assertEqual(bench.registers(0)[1], sign * 10 ** 12)
                self.assertEqual(bench.state(0), state)
        bench = alone(*grow, *again, ("set", 6, -1), ("take", 5, 1, 6))
        bench.go(first, 10000)
        self.assertEqual((bench.state(0), bench.registers(0)[5:7]), ("fault", (0, -1)))

    def test_back_with_nothing_remembered(self):
        bench = alone(REST, ("back",), REST)
        self.assertEqual(bench.go(first, 9), 2)
        self.assertEqual((bench.state(0), bench.row(0), bench.remembered(0)), ("fault", 1, ()))

    def test_call_with_twenty_remembered(self):
        bench = alone(REST, ("call", 1))
        self.assertEqual(bench.go(first, 100), 22)
        self.assertEqual((bench.state(0), bench.row(0), bench.remembered(0)), ("fault", 1, (2,) * 20))

    def test_nothing_else_changes_by_a_fault(self):
        program = Program((0, 1), ((("put", 0, 0), ("back",)), (("put", 1, 0), REST)))
        bench = led_bench(TWO, program, [("do", 0), ("do", 1)])
        earlier = bench_seen(bench)
        bench.step(("do", 0))
        later = bench_seen(bench)
        self.assertEqual(later.pop("state"), ["fault", "rests"])
        self.assertEqual(later.pop("can"), [("come", 0, 1), ("come", 1, 0)])
        self.assertEqual({**later, "state": 0, "can": 0}, {**earlier, "state": 0, "can": 0})
        # At a fault it still gets, writes and sends.
        bench.step(("come", 1, 0))
        self.assertEqual((bench.diary(0), bench.letters((0, 1))), ((0, 1), (0, 1)))

    def test_chance_against_slow_ones(self):
        for seed in range(60):
            machines = 1 + seed % 4
            chance = numbers(seed)
            web = Web(machines, tuple([wire for wire in full(machines).wires if next(chance) % 4]))
            program = chance_program(machines, 14, seed, FORMS)
            bench, slow, choose = Bench(web, program), SlowBench(web, program), chosen(seed)
            for _ in range(70):
                self.assertEqual(bench_seen(bench), slow.seen())
                if not slow.can():
                    break
                step = choose(slow.can())
                bench.step(step)
                slow.perform(step)

    def test_what_is_returned_is_new(self):
        bench = led_bench(TWO, BUSY, [("do", 0), ("do", 0)])
        for method in (Bench.can, Bench.steps, Bench.puts, Bench.breaks, Bench.lives):
            earlier = method(bench)
            told = method(bench)
            self.assertIs(type(told), list)
            told.append(None)
            self.assertEqual(method(bench), earlier)
        for method in (Bench.registers, Bench.remembered, Bench.told, Bench.cells, Bench.diary):
            self.assertIs(type(method(bench, 0)), tuple)
        self.assertIs(type(bench.letters((0, 1))), tuple)

    def test_no_bench_is_equal_to_another(self):
        bench = Bench(TWO, BUSY)
        self.assertTrue(bench == bench)
        for thing in odd_things() + [Bench(TWO, BUSY), BUSY, TWO]:
            self.assertFalse(bench == thing)


class Steps(unittest.TestCase):

    def test_can_in_its_order(self):
        program = Program((0, 1, 2), tuple([(("put", x, 0), ("tell", 0)) for x in (0, 1, 2)]))
        bench = led_bench(full(3), program, [("do", 2), ("do", 0)])
        self.assertEqual(bench.can(), [("do", 0), ("do", 1), ("do", 2), ("come", 0, 1), ("come", 0, 2), ("come", 2, 0),
                                       ("come", 2, 1)])

    def test_no_step(self):
        bench = led_bench(TWO, BUSY, [("do", 0), ("do", 0), ("come", 0, 1)])
        earlier = (bench_seen(bench), bench.steps())
        wrong = [("do", 2), ("do", -1), ("do", True), ("do", False), ("do",), ("do", 0, 0), ["do", 0], ("come", 0, 1),
                 ("come", 0, 0), ("come", True, False), ("come", 1), ("come", (1, 0)), ["come", 1, 0], (b"do", 0),
                 ("come", 2, 0), ("come", 0, 2), ("come", 1, 0, 0), ("put", 0), ("cut", (0, 1)), ("fall", 0), "do 0",
                 ("do", "0"), ("do", None), ("do", [0]), ("come", [1], 0), ("Do", 0), {"do": 0}, 0]
        for thing in odd_things() + wrong:
            with self.assertRaises(errors.NoStep):
                bench.step(thing)
        self.assertEqual((bench_seen(bench), bench.steps()), earlier)
        ended = alone()
        with self.assertRaises(errors.NoStep):
            ended.step(("do", 0))

    def test_steps(self):
        steps = [("do", 0), ("do", 1), ("do", 0), ("come", 0, 1), ("come", 1, 0)]
        bench = led_bench(TWO, BUSY, steps)
        self.assertEqual(bench.steps(), steps)
        bench.back()
        self.assertEqual(bench.steps(), steps[:-1])
        self.assertIsNone(bench.step(("come", 1, 0)))
        self.assertIsNone(bench.back())

    def test_back_down_to_the_beginning(self):
        for seed in range(12):
            program = chance_program(3, 12, seed)
            bench, choose, seen = Bench(full(3), program), chosen(seed), []
            while bench.can() and len(seen) < 80:
                seen.append((bench_seen(bench), bench.steps()))
                bench.step(choose(bench.can()))
            while seen:
                bench.back()
                self.assertEqual((bench_seen(bench), bench.steps()), seen.pop())
            for _ in range(2):
                with self.assertRaises(errors.NothingDone):
                    bench.back()
            self.assertEqual(bench_seen(bench), bench_seen(Bench(full(3), program)))

    def test_on_behind_what_was_taken_back(self):
        bench = Bench(TWO, BUSY)
        bench.go(first, 6)
        for _ in range(4):
            bench.back()
        bench.go(last, 1000)
        slow = SlowBench(TWO, BUSY)
        for step in bench.steps():
            slow.perform(step)
        self.assertEqual(bench_seen(bench), slow.seen())


class Go(unittest.TestCase):

    def test_the_first_and_the_last_step(self):
        bench = Bench(TWO, BUSY)
        self.assertEqual(bench.go(first, 3), 3)
        self.assertEqual(bench.steps(), [("do", 0)] * 3)
        many = bench.go(last, 10000)
        self.assertEqual(bench.can(), [])
        self.assertEqual(len(bench.steps()), many + 3)
        self.assertEqual(bench.go(first, 10000), 0)
        self.assertEqual(bench.outcome(), ((9,), (7,)))

    def test_most(self):
        bench = Bench(TWO, BUSY)
        self.assertEqual(bench.go(None, 0), 0)
        endless = alone(("go", 0))
        self.assertEqual(endless.go(first, 10000), 10000)
        self.assertEqual(endless.go(first, 1), 1)
        self.assertEqual(len(endless.steps()), 10001)
        for thing in odd_things() + [10001, -1, True, False, "1", None, [1], (0,), 10 ** 39]:
            with self.assertRaises(errors.NoNumber):
                bench.go(first, thing)
        self.assertEqual(bench.steps(), [])

    def test_what_the_chooser_is_told(self):
        bench, told = Bench(TWO, BUSY), []

        def spoil(steps):
            self.assertEqual(steps, bench.can())
            self.assertFalse([other for other in told if other is steps])
            told.append(steps)
            step = steps[0]
            steps.clear()
            return step

        self.assertEqual(bench.go(spoil, 5), 5)
        self.assertEqual(len(told), 5)
        other = led_bench(TWO, BUSY, bench.steps())
        self.assertEqual(bench_seen(bench), bench_seen(other))

    def test_a_chooser_that_gives_no_step(self):
        for thing in odd_things() + [("do", 2), ("come", 0, 1), ["do", 0], ("do", True), 0]:
            bench = Bench(TWO, BUSY)
            given = [("do", 0), ("do", 1), ("do", 0), ("come", 0, 1), thing]
            with self.assertRaises(errors.BadChoice) as caught:
                bench.go(lambda steps, given=iter(given): next(given), 100)
            self.assertEqual(caught.exception.number, 4)
            self.assertEqual(bench.steps(), given[:4])
        bench = Bench(TWO, BUSY)
        bench.go(first, 2)
        with self.assertRaises(errors.BadChoice) as caught:
            bench.go(lambda steps: None, 100)
        self.assertEqual(caught.exception.number, 0)

    def test_a_chooser_that_raises(self):
        for error in (errors.NoStep, KeyError, StopIteration, errors.GrowError, ZeroDivisionError):
            bench = Bench(TWO, BUSY)

            def fail(steps):
                if len(bench.steps()) == 3:
                    raise error()
                return steps[0]

            with self.assertRaises(error):
                bench.go(fail, 100)
            self.assertEqual(bench.steps(), [("do", 0)] * 3)

    def test_a_chooser_that_works_on_the_bench(self):
        bench = Bench(TWO, BUSY)

        def ahead(steps):
            # It tries each step, and takes the one that lets most be done then.
            return max(steps, key=lambda step: (bench.trying(lambda b: (b.step(step), len(b.can()))[1]), step))

        self.assertEqual(bench.go(ahead, 6), 6)
        self.assertEqual(len(bench.steps()), 6)

        def spent(steps):
            bench.step(steps[0])
            return steps[0]

        bench = alone(REST, REST, REST)
        with self.assertRaises(errors.BadChoice) as caught:
            bench.go(spent, 9)
        self.assertEqual((caught.exception.number, bench.steps()), (1, [("do", 0)] * 3))

    def test_breaks(self):
        bench = Bench(TWO, BUSY)
        self.assertIsNone(bench.set_break(0, 3))
        bench.set_break(1, 0)
        bench.set_break(0, 3)
        self.assertEqual(bench.breaks(), [(0, 3), (1, 0)])
        self.assertEqual(bench.go(first, 100), 3)
        self.assertEqual(bench.row(0), 3)
        # At once, at the first call.
        self.assertEqual(bench.go(first, 100), 0)
        self.assertEqual(bench.go(lambda steps: ("do", 1), 100), 0)
        # Letters come all the same: the machine 1 writes the put 0, and sends it back.
        self.assertEqual(bench.go(last, 100), 2)
        bench.step(("do", 0))
        self.assertEqual((bench.row(0), bench.breaks()), (4, [(0, 3), (1, 0)]))
        self.assertIsNone(bench.clear_break(1, 0))
        self.assertEqual(bench.breaks(), [(0, 3)])
        bench.go(last, 100)
        self.assertEqual(bench.outcome(), ((9,), (8,)))

    def test_only_doing_stops_at_a_break(self):
        program = Program((0,), ((("put", 0, 0),), (("look", 0, 0), ("tell", 0))))
        bench = Bench(TWO, program)
        bench.set_break(1, 0)
        self.assertEqual(bench.go(last, 1), 0)
        bench.step(("do", 0))
        self.assertEqual(bench.go(first, 100), 0)
        self.assertEqual(bench.go(last, 100), 2)
        self.assertEqual((bench.can(), bench.diary(1)), ([("do", 1)], (0,)))

    def test_breaks_are_nothing_that_is_taken_back(self):
        bench = Bench(TWO, BUSY)
        bench.step(("do", 0))
        bench.set_break(0, 0)
        self.assertEqual(bench.steps(), [("do", 0)])
        bench.back()
        self.assertEqual(bench.breaks(), [(0, 0)])
        bench.clear_break(0, 0)
        with self.assertRaises(errors.NothingDone):
            bench.back()
        self.assertEqual(bench.breaks(), [])

    def test_no_machine_then_no_row(self):
        bench = Bench(TWO, BUSY)
        for method in (Bench.set_break, Bench.clear_break):
            for thing in odd_things() + [2, -1, True, "0", (0,)]:
                for row in (0, 99, None):
                    with self.assertRaises(errors.NoMachine):
                        method(bench, thing, row)
            for thing in odd_things() + [6, -1, True, False, "0", (0,), [0]]:
                with self.assertRaises(errors.NoRow):
                    method(bench, 0, thing)
            with self.assertRaises(errors.NoRow):
                method(bench, 1, 5)
        bench.set_break(0, 5)
        for place in ((0, 0), (1, 4)):
            with self.assertRaises(errors.NoRow):
                bench.clear_break(*place)
        bench.clear_break(0, 5)
        with self.assertRaises(errors.NoRow):
            bench.clear_break(0, 5)
        with self.assertRaises(errors.NoRow):
            alone().set_break(0, 0)


class Asked(unittest.TestCase):

    def test_no_machine(self):
        bench = Bench(TWO, BUSY)
        for method in EACH:
            for thing in odd_things() + [2, -1, True, False, "0", (0,), [0], None]:
                with self.assertRaises(errors.NoMachine):
                    method(bench, thing)

    def test_no_wire(self):
        bench = Bench(Web(3, ((0, 1),)), Program((0,), ((), (), ())))
        for thing in odd_things() + [(1, 0), (0, 2), (0, 0), (0, 3), [0, 1], (0, 1, 0), (False, True), (False, 1), 0]:
            with self.assertRaises(errors.NoWire):
                bench.letters(thing)
        self.assertEqual(bench.letters((0, 1)), ())

    def test_a_machine_that_is_down(self):
        bench = Bench(TWO, BUSY)
        bench.go(lambda steps: ("do", 0), 6)
        bench.fall(0)
        told = [method(bench, 0) for method in EACH]
        self.assertEqual(told, ["down", 0, (0,) * 8, (), (0,), (0, 0), ()])
        self.assertEqual((bench.puts(), bench.outcome()), ([(0, 0, 7), (0, 0, 8)], None))
        down = alone()
        down.fall(0)
        self.assertEqual((down.state(0), down.outcome()), ("down", None))

    def test_outcome(self):
        bench = Bench(TWO, BUSY)
        bench.go(lambda steps: steps[0], 6)
        self.assertEqual((bench.state(0), bench.outcome()), ("end", None))
        bench.go(last, 10000)
        self.assertEqual(bench.outcome(), ((0,), (8,)))
        self.assertEqual(alone().outcome(), ((),))
        # Letters may be left on wires.
        program = Program((0,), ((("put", 0, 0), ("tell", 0)), ()))
        bench = led_bench(TWO, program, [("do", 0), ("do", 0)])
        self.assertEqual((bench.outcome(), bench.can()), (((0,), ()), [("come", 0, 1)]))

    def test_copy(self):
        bench = Bench(TWO, BUSY)
        bench.set_break(1, 3)
        bench.go(first, 5)
        bench.fall(1)
        bench.cut((0, 1))
        earlier = bench_seen(bench)
        other = bench.copy()
        self.assertIs(type(other), Bench)
        self.assertEqual((bench_seen(other), other.steps(), other.breaks()), (earlier, bench.steps(), [(1, 3)]))
        other.rise(1)
        other.clear_break(1, 3)
        other.go(last, 100)
        self.assertEqual((bench_seen(bench), bench.breaks()), (earlier, [(1, 3)]))
        bench.set_break(0, 0)
        self.assertEqual(other.breaks(), [])
        while other.steps():
            other.back()
        self.assertEqual(bench_seen(other), bench_seen(Bench(TWO, BUSY)))
        self.assertEqual(bench_seen(bench), earlier)
        while bench.steps():
            bench.back()
        self.assertEqual(bench_seen(bench), bench_seen(other))

    def test_copies_go_on_apart(self):
        for seed in range(8):
            bench = Bench(full(3), chance_program(3, 12, seed))
            bench.go(chosen(seed), 20)
            other, earlier, steps = bench.copy(), bench_seen(bench), bench.steps()
            other.go(chosen(seed + 1), 30)
            for _ in range(min(5, len(steps))):
                other.back()
            self.assertEqual((bench_seen(bench), bench.steps()), (earlier, steps))
            bench.go(chosen(seed + 2), 30)
            again = led_bench(full(3), bench.program(), other.steps())
            self.assertEqual(bench_seen(again), bench_seen(other))

    def test_trying(self):
        bench = Bench(TWO, BUSY)
        bench.go(first, 4)
        bench.set_break(0, 1)
        earlier, steps = bench_seen(bench), bench.steps()

        def action(there):
            self.assertIs(there, bench)
            there.back()
            there.back()
            there.go(last, 5)
            there.fall(0)
            there.lay((0, 1)) if (0, 1) not in there.web().wires else there.cut((0, 1))
            there.clear_break(0, 1)
            there.set_break(1, 1)
            self.assertEqual(there.trying(lambda b: (b.rise(0), b.breaks())), (None, [(1, 1)]))
            return [there.state(0), there.breaks()]

        self.assertEqual(bench.trying(action), ["down", [(1, 1)]])
        self.assertEqual((bench_seen(bench), bench.steps(), bench.breaks()), (earlier, steps, [(0, 1)]))
        self.assertIsNone(bench.trying(lambda b: None))
        while bench.steps():
            bench.back()
        self.assertEqual(bench_seen(bench), bench_seen(Bench(TWO, BUSY)))

    def test_trying_what_raises(self):
        bench = Bench(TWO, BUSY)
        bench.go(first, 4)
        earlier, steps = bench_seen(bench), bench.steps()
        for error in (errors.NoStep, ValueError, KeyError, KeyboardInterrupt):

            def action(there):
                there.go(last, 7)
                there.set_break(0, 0)
                raise error()

            with self.assertRaises(error):
                bench.trying(action)
            self.assertEqual((bench_seen(bench), bench.steps(), bench.breaks()), (earlier, steps, []))
        with self.assertRaises(errors.NothingDone):
            bench.trying(lambda b: [b.back() for _ in range(9)])
        self.assertEqual((bench_seen(bench), bench.steps()), (earlier, steps))
