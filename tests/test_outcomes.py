"""Promise 10.1: outcomes, runs to them, and standings. Also 0.2 to 0.5, as they speak of them."""

import unittest

from growalong import errors
from growalong.benches import Bench
from growalong.outcomes import is_run_to, many_standings, outcomes, run_to, stuck
from growalong.programs import Program
from growalong.webs import Web, full, hub, line
from tests.made import numbers
from tests.odd import odd_things
from tests.slowbench import STRAIGHT, all_standings, chance_program, counting

TWO = full(2)
REST = ("rest",)
CROSSED = Program((0, 1), ((("set", 0, 1), ("put", 0, 0), ("look", 1, 1), ("tell", 1)),
                           (("set", 0, 1), ("put", 1, 0), ("look", 1, 0), ("tell", 1))))
ALL = (outcomes, many_standings, stuck)


def idle(many):
    return Program((0,), ((REST,) * many,))


def some_plays():
    """Webs and small programs, with rows that go anywhere, and that go onward only."""
    for seed in range(60):
        chance = numbers(seed)
        machines = 1 + seed % 3
        web = Web(machines, tuple([wire for wire in full(machines).wires if next(chance) % 4]))
        rows = (8, 4, 3)[machines - 1]
        yield web, chance_program(machines, rows, seed, STRAIGHT, forward=True)
        yield web, chance_program(machines, rows - 1, seed)


def by_bench(web, program, steps):
    bench = Bench(web, program)
    for step in steps:
        bench.step(step)
    return bench


class Outcomes(unittest.TestCase):

    def test_against_all_runs(self):
        checked = 0
        for web, program in some_plays():
            try:
                many = many_standings(web, program)
            except errors.TooMany:
                continue
            if many > 700:
                continue
            found = all_standings(web, program)
            self.assertEqual(many, len(found))
            told = sorted({slow.outcome() for slow in found.values() if slow.outcome() is not None})
            self.assertEqual(outcomes(web, program), told)
            ends = [slow for slow in found.values() if not slow.can() and slow.outcome() is None]
            self.assertEqual(stuck(web, program) is None, not ends)
            self.check_runs(web, program, told)
            checked += 1
        self.assertGreater(checked, 80)

    def check_runs(self, web, program, told):
        for outcome in told:
            steps = run_to(web, program, outcome)
            self.assertIs(type(steps), list)
            self.assertEqual(by_bench(web, program, steps).outcome(), outcome)
            self.assertIs(is_run_to(web, program, outcome, steps), True)
        steps = stuck(web, program)
        if steps is not None:
            bench = by_bench(web, program, steps)
            self.assertEqual((bench.can(), bench.outcome()), ([], None))

    def test_example(self):
        self.assertEqual(outcomes(TWO, CROSSED), [((0,), (0,)), ((0,), (1,)), ((1,), (0,)), ((1,), (1,))])
        self.assertIsNone(stuck(TWO, CROSSED))

    def test_without_rows(self):
        for machines in (1, 2, 7):
            empty = Program((0,), ((),) * machines)
            self.assertEqual(outcomes(full(machines), empty), [((),) * machines])
            self.assertEqual(many_standings(full(machines), empty), 1)
            self.assertEqual(run_to(full(machines), empty, ((),) * machines), [])
            self.assertIs(is_run_to(full(machines), empty, ((),) * machines, []), True)
            self.assertIsNone(stuck(full(machines), empty))

    def test_stuck(self):
        for code in ((("back",),), (("call", 0),), (("set", 0, 10 ** 6),) + (("add", 0, 0, 0),) * 20):
            program = Program((0,), (code, (("tell", 0),)))
            self.assertEqual(outcomes(TWO, program), [])
            bench = by_bench(TWO, program, stuck(TWO, program))
            self.assertEqual((bench.can(), bench.state(0)), ([], "fault"))
        # A rest that never ends.
        program = Program((0,), ((("put", 0, 0), REST), ()))
        self.assertEqual(by_bench(Web(2, ()), program, stuck(Web(2, ()), program)).state(0), "rests")
        self.assertIsNone(stuck(TWO, program))
        # What goes on for ever is not stuck.
        self.assertIsNone(stuck(full(1), Program((0,), ((("go", 0),),))))
        # Nor is who can get a letter still, or is at the end.
        self.assertIsNone(stuck(Web(2, ((0, 1),)), Program((0,), ((("put", 0, 0),), ()))))

    def test_which_standings_are_alike(self):
        # Two puts of unlike machines, one of which comes first: their numbers do not matter, their order does.
        puts = Program((0, 1), ((("put", 0, 0),), (("put", 1, 0),)))
        self.assertEqual(many_standings(Web(2, ()), puts), 4)
        self.assertEqual(many_standings(TWO, puts), len(all_standings(TWO, puts)))
        # A put is what was put, too; what a register holds makes them unlike, and what is told and remembered.
        cases = [(("put", 0, 0), 2), (("set", 0, 0), 2), (("set", 0, 1), 2), (("tell", 0), 2), (("back",), 2),
                 (("go", 0), 1), (("go", 1), 2), (REST, 2), (("call", 1), 2), (("call", 0), 22), (("same", 0, 0, 0), 1),
                 (("less", 0, 0, 0), 2)]
        for row, many in cases:
            self.assertEqual(many_standings(full(1), Program((0,), ((row,),))), many)
        race = Program((1,), ((("look", 0, 0), ("set", 0, 0)), (("put", 0, 0),)))
        self.assertEqual(many_standings(Web(2, ((1, 0),)), race), 9)
        race = Program((1,), ((("look", 0, 0), ("set", 0, 0)), (("set", 1, 1), ("put", 0, 1),)))
        self.assertEqual(many_standings(Web(2, ((1, 0),)), race), 13)

    def test_five_thousand(self):
        def resting(*rows):
            # Each machine has as many standings as rows, and one.
            return Program((0,), tuple([(REST,) * many for many in rows]))

        fits, over = resting(49, 49, 1), resting(40, 60, 1)
        self.assertEqual(many_standings(full(3), fits), 5000)
        self.assertEqual((outcomes(full(3), fits), stuck(full(3), fits)), ([((), (), ())], None))
        self.assertEqual(len(run_to(full(3), fits, ((), (), ()))), 99)
        self.assertEqual(many_standings(full(1), counting(4999)), 4999)
        with self.assertRaises(errors.TooMany):
            many_standings(full(1), counting(5001))
        self.assertEqual(41 * 61 * 2, 5002)
        for program in (over, Program((0, 1, 2), tuple([(("put", x, 0), ("go", 0)) for x in (0, 1, 2)]))):
            for asked in ALL:
                with self.assertRaises(errors.TooMany) as caught:
                    asked(full(3), program)
                self.assertEqual(caught.exception.most, 5000)
            for outcome in (((), (), ()), None, 5):
                with self.assertRaises(errors.TooMany):
                    run_to(full(3), program, outcome)
        # Not is_run_to.
        self.assertIs(is_run_to(full(3), over, ((), (), ()), [("do", 0)] * 40 + [("do", 1)] * 60 + [("do", 2)]), True)

    def test_other_machines(self):
        endless = Program((0,), ((("put", 0, 0), ("tell", 0), ("go", 0)),) * 1)
        for web in (full(3), full(2)):
            for asked in ALL:
                with self.assertRaises(errors.OtherMachines):
                    asked(web, endless)
            for thing in (None, ((),), [], ((), (), ())):
                with self.assertRaises(errors.OtherMachines):
                    run_to(web, endless, thing)
                with self.assertRaises(errors.OtherMachines):
                    is_run_to(web, endless, thing, [])

    def test_no_outcome(self):
        told = outcomes(TWO, CROSSED)
        wrong = [((2,), (0,)), ((0,),), ((0,), (0,), (0,)), ((0, 0), (0,)), ((), ()), [(0,), (0,)], ([0], [0]), (0, 0),
                 ((False,), (False,)), ((True,), (0,)), ((0,), (True,)), (("0",), ("0",)), ((None,), (0,)), {(0,): (0,)},
                 (((0,),), (0,)), told, ((0,), [0])]
        steps = run_to(TWO, CROSSED, ((1,), (0,)))
        for thing in odd_things() + wrong:
            self.assertIsNone(run_to(TWO, CROSSED, thing))
            self.assertIs(is_run_to(TWO, CROSSED, thing, steps), False)
            self.assertIs(is_run_to(TWO, CROSSED, thing, thing), False)
        self.assertIs(is_run_to(TWO, CROSSED, ((1,), (0,)), steps), True)

    def test_is_run_to(self):
        steps = [("do", 0)] * 4 + [("do", 1)] * 4
        outcome = ((0,), (0,))
        for thing in (steps, tuple(steps), steps + [("come", 0, 1)], [*steps, ("come", 1, 0), ("come", 0, 1)]):
            self.assertIs(is_run_to(TWO, CROSSED, outcome, thing), True)
        for thing in (steps[:-1], steps[1:], [], (), steps + [("do", 0)], steps + [("come", 0, 1)] * 2,
                      steps[:4] + [("come", 0, 1)] + steps[4:], steps + [None], [*steps, ("fall", 0), ("rise", 0)],
                      [("cut", (0, 1)), *steps], [list(step) for step in steps], dict.fromkeys(steps), "do 0",
                      [("do", False)] * 4 + [("do", 1)] * 4, [("do", 0)] * 4 + [("do", True)] * 4):
            self.assertIs(is_run_to(TWO, CROSSED, outcome, thing), False)
        for thing in odd_things():
            self.assertIs(is_run_to(TWO, CROSSED, outcome, thing), False)
            self.assertIs(is_run_to(TWO, CROSSED, outcome, [*steps, thing]), False)
        # Steps that lead to another outcome.
        self.assertIs(is_run_to(TWO, CROSSED, ((0,), (1,)), steps), False)
        # There may be many steps.
        endless = Program((0,), ((("same", 0, 0, 0),),))
        self.assertIs(is_run_to(full(1), endless, ((),), [("do", 0)] * 6000), False)
        self.assertIs(is_run_to(full(1), idle(60), ((),), [("do", 0)] * 60), True)
        turning = Program((1,), ((("look", 0, 0), ("same", 0, 1, 0)), (("set", 0, 1), ("put", 0, 0))))
        many = [("do", 0)] * 8000 + [("do", 1)] * 2 + [("come", 1, 0)] + [("do", 0)] * 2
        self.assertIs(is_run_to(hub(2), turning, ((), ()), many), True)

    def test_no_run(self):
        self.assertIsNone(run_to(TWO, Program((0,), ((("back",),), ())), ((), ())))
        program = Program((0,), ((("tell", 0),), ()))
        self.assertEqual(run_to(TWO, program, ((0,), ())), [("do", 0)])
        self.assertIsNone(run_to(TWO, program, ((), ())))

    def test_equal_calls_give_equal_answers(self):
        for web in (TWO, Web(2, ())):
            told = outcomes(web, CROSSED)
            self.assertIs(type(told), list)
            outcomes(web, CROSSED).clear()
            run_to(web, CROSSED, told[0]).clear()
            self.assertEqual(outcomes(web, CROSSED), told)
            self.assertEqual(run_to(web, CROSSED, told[0]), run_to(web, CROSSED, told[0]))

    def test_a_way_over_another_machine(self):
        program = Program((0,), ((("set", 0, 1), ("put", 0, 0)), (), (("look", 0, 0), ("tell", 0))))
        for web, told in ((line(3), [((), (), (0,)), ((), (), (1,))]), (Web(3, ((0, 1), (2, 1))), [((), (), (0,))])):
            self.assertEqual(outcomes(web, program), told)
