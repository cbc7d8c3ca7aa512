"""Promise 11.1: webs compared. Also 0.2 to 0.5, as they speak of it."""

import unittest
from unittest import mock

from growalong import errors, standings
from growalong.benches import Bench
from growalong.outcomes import is_run_to, many_standings, outcomes
from growalong.programs import Program
from growalong.showing import is_showing, showing, within
from growalong.webs import Web, full, hub, line, ring, web_of_any_size, with_wire, without_wire
from tests.made import numbers
from tests.odd import odd_things
from tests.slow import all_webs

TWO = full(2)
ONE_WAY = Web(2, ((0, 1),))
# The machine 0 puts, the machine 1 tells whether it sees that.
SEEN = Program((0,), ((("set", 0, 1), ("put", 0, 0)), (("look", 0, 0), ("tell", 0))))


def chance_webs(machines, seed, part):
    """Two webs that look like chance, with one of some wires."""
    chance = numbers(seed)
    return [Web(machines, tuple([wire for wire in full(machines).wires if next(chance) % part == 0])) for _ in (0, 1)]


def one_way_ring(machines):
    return web_of_any_size(machines, [(x, (x + 1) % machines) for x in range(machines)])


class Within(unittest.TestCase):

    def test_all_small_webs(self):
        for machines in (1, 2, 3):
            for web in all_webs(machines):
                for other_web in all_webs(machines):
                    self.assertIs(within(web, other_web), set(web.wires) <= set(other_web.wires))

    def test_examples(self):
        self.assertIs(within(hub(3), full(3)), True)
        self.assertIs(within(full(3), hub(3)), False)
        self.assertIs(within(ring(7), full(7)), True)
        self.assertIs(within(line(6), ring(6)), True)
        self.assertIs(within(ring(6), line(6)), False)

    def test_more_machines_than_a_constructor_lets(self):
        wide = web_of_any_size(20, [(x, x + 1) for x in range(19)])
        self.assertIs(within(wide, wide), True)
        self.assertIs(within(wide, web_of_any_size(20, [(0, 1)])), False)

    def test_other_machines(self):
        for web, other_web in ((TWO, full(3)), (full(3), TWO), (Web(1, ()), full(7))):
            for asked in (lambda: within(web, other_web), lambda: showing(web, other_web)):
                with self.assertRaises(errors.OtherMachines):
                    asked()
            for thing in odd_things() + [(SEEN, ((), (1,)))]:
                with self.assertRaises(errors.OtherMachines):
                    is_showing(web, other_web, thing)


class Showing(unittest.TestCase):

    def check_kind(self, web, pair):
        self.assertIs(type(pair), tuple)
        program, outcome = pair
        self.assertIs(type(program), Program)
        self.assertEqual(Program(program.owners, program.codes), program)
        self.assertEqual(len(program.codes), web.machines)
        self.assertEqual((type(outcome), len(outcome)), (tuple, web.machines))

    def test_none_just_where_it_is_due(self):
        for machines in (1, 2, 3):
            webs = all_webs(machines)
            for at, web in enumerate(webs):
                for other_web in webs[at % 3::3]:
                    pair = showing(web, other_web)
                    self.assertEqual(pair is None, within(web, other_web))
                    if pair is not None:
                        self.check_kind(web, pair)
        for machines in (4, 5, 6, 7):
            for seed in range(20):
                web, other_web = chance_webs(machines, seed, 2 + seed % 4)
                self.assertEqual(showing(web, other_web) is None, within(web, other_web))
                self.assertIsNone(showing(web, web))
                self.assertIsNone(showing(web, full(machines)))

    def test_what_is_told_is_right(self):
        judged = 0
        for machines, part, seeds in ((2, 2, 12), (3, 2, 60), (3, 1, 1), (4, 3, 30), (5, 5, 20), (6, 6, 12)):
            for seed in range(seeds):
                web, other_web = chance_webs(machines, seed, part)
                if within(web, other_web):
                    continue
                self.check_run(web, showing(web, other_web))
                try:
                    self.assertIs(is_showing(web, other_web, showing(web, other_web)), True)
                    judged += 1
                except errors.TooMany:
                    pass
        self.assertGreater(judged, 70)

    def test_a_way_past_other_machines_instead(self):
        plays = [(Web(3, ((0, 1), (0, 2), (1, 2))), (0, 2)), (Web(4, ((0, 1), (0, 3), (1, 2), (2, 3))), (0, 3)),
                 (Web(4, ((0, 1), (0, 2), (0, 3), (1, 2), (2, 3))), (0, 3)), (with_wire(one_way_ring(4), (0, 2)), (0, 2)),
                 (Web(5, ((0, 1), (0, 4), (1, 2), (2, 3), (3, 4))), (0, 4)), (with_wire(one_way_ring(5), (1, 4)), (1, 4)),
                 (Web(6, ((0, 1), (0, 5), (1, 2), (2, 3), (3, 4), (4, 5))), (0, 5)),
                 (Web(6, ((0, 1), (0, 3), (1, 2), (2, 3), (3, 4), (4, 5))), (0, 3))]
        for web, wire in plays:
            other_web = without_wire(web, wire)
            pair = showing(web, other_web)
            self.check_run(web, pair)
            self.assertIs(is_showing(web, other_web, pair), True)
            self.assertIs(is_showing(other_web, web, pair), False)
            self.assertIsNone(showing(other_web, web))

    def test_dense_webs(self):
        for machines in (3, 4, 5, 6, 7):
            for wire in full(machines).wires[::4]:
                web, other_web = full(machines), without_wire(full(machines), wire)
                pair = showing(web, other_web)
                self.check_kind(web, pair)
                self.check_run(web, pair)
        parallel = Web(6, ((0, 1), (0, 2), (0, 5), (1, 5), (2, 5)))
        for web, other_web in ((ring(6), line(6)), (ring(5), hub(5)), (hub(6), ring(6)), (full(6), ring(6)),
                               (parallel, without_wire(parallel, (0, 5))),
                               (with_wire(one_way_ring(6), (0, 3)), one_way_ring(6))):
            self.check_run(web, showing(web, other_web))

    def test_denser_webs_judged_with_more_standings(self):
        # Two machines past which ways lead, without a wire between them, and with one.
        apart = Web(4, ((0, 1), (0, 2), (0, 3), (1, 3), (2, 3)))
        beside = Web(4, ((0, 1), (0, 2), (0, 3), (1, 2), (1, 3), (2, 3)))
        for web, wire, puts in ((full(3), (0, 2), 2), (apart, (0, 3), 3), (beside, (0, 3), 2)):
            other_web = without_wire(web, wire)
            pair = showing(web, other_web)
            self.assertEqual(len(pair[0].owners), puts)
            self.check_run(web, pair)
            with mock.patch.object(standings, "MOST_STANDINGS", 10 ** 5):
                self.assertIs(is_showing(web, other_web, pair), True)
                self.assertIs(is_showing(other_web, web, pair), False)
        program, outcome = showing(full(3), without_wire(full(3), (0, 2)))
        with self.assertRaises(errors.TooMany):
            is_showing(full(3), full(3), (program, outcome))

    def check_run(self, web, pair):
        """The outcome is one on the web: by the run that the program is made for."""
        program, outcome = pair
        writer, sources = program.owners[0], program.owners[1:]
        seer = [x for x, code in enumerate(program.codes) if code[:1] == (("look", 0, 0),)][0]
        between = [x for x in range(web.machines) if x not in (writer, seer)]
        bench = Bench(web, program)
        for source in sources:
            bench.step(("do", source))
            bench.step(("do", source))
        come = [step for step in bench.can() if step[0] == "come" and step[2] in between]
        while come:
            bench.step(come[0])
            come = [step for step in bench.can() if step[0] == "come" and step[2] in between]
        for x in between:
            self.do_all(bench, x)
        self.do_all(bench, writer)
        bench.step(("come", writer, seer))
        self.do_all(bench, seer)
        self.assertEqual(bench.outcome(), outcome)
        self.assertIs(is_run_to(web, program, outcome, bench.steps()), True)

    def do_all(self, bench, x):
        for _ in range(100):
            if ("do", x) in bench.can():
                bench.step(("do", x))

    def test_more_machines_than_a_constructor_lets(self):
        wide = web_of_any_size(12, [(x, (x + 1) % 12) for x in range(12)] + [(x, (x + 5) % 12) for x in range(12)])
        narrow = without_wire(wide, (3, 8))
        self.assertIsNone(showing(narrow, wide))
        self.check_run(wide, showing(wide, narrow))
        program, _ = showing(web_of_any_size(9, [(0, 8)]), web_of_any_size(9, []))
        self.assertEqual(len(program.codes), 9)

    def test_equal_calls_give_equal_answers(self):
        for seed in range(10):
            web, other_web = chance_webs(5, seed, 2)
            self.assertEqual(showing(web, other_web), showing(web, other_web))


class IsShowing(unittest.TestCase):

    def test_right_and_wrong_ones(self):
        right = (SEEN, ((), (1,)))
        self.assertIs(is_showing(TWO, Web(2, ((1, 0),)), right), True)
        self.assertIs(is_showing(ONE_WAY, Web(2, ()), right), True)
        # The webs exchanged, the same web, a web that has the wire.
        self.assertIs(is_showing(Web(2, ((1, 0),)), TWO, right), False)
        self.assertIs(is_showing(ONE_WAY, ONE_WAY, right), False)
        self.assertIs(is_showing(ONE_WAY, TWO, right), False)
        # Another outcome: one that both have, one that neither has.
        self.assertIs(is_showing(ONE_WAY, Web(2, ()), (SEEN, ((), (0,)))), False)
        self.assertIs(is_showing(ONE_WAY, Web(2, ()), (SEEN, ((), (2,)))), False)
        self.assertIs(is_showing(ONE_WAY, Web(2, ()), (SEEN, ((1,), ()))), False)

    def test_rows_changed(self):
        web = Web(3, ((0, 1), (0, 2), (1, 2)))
        other_web = without_wire(web, (0, 2))
        program, outcome = showing(web, other_web)
        self.assertIs(is_showing(web, other_web, (program, outcome)), True)
        changed = 0
        for x, code in enumerate(program.codes):
            for at in range(len(code)):
                rows = code[:at] + (("rest",),) + code[at + 1:]
                codes = program.codes[:x] + (rows,) + program.codes[x + 1:]
                other = Program(program.owners, codes)
                right = outcome in outcomes(web, other) and outcome not in outcomes(other_web, other)
                self.assertIs(is_showing(web, other_web, (other, outcome)), right)
                changed += not right
        self.assertGreater(changed, 5)
        telling = Program(program.owners, tuple([(("tell", 0), *code[1:]) for code in program.codes]))
        self.assertIs(is_showing(web, other_web, (telling, outcome)), False)

    def test_any_other_thing(self):
        right = (SEEN, ((), (1,)))
        three = Program((0,), (*SEEN.codes, ()))
        wrong = [None, SEEN, (SEEN,), [*right], (*right, None), right[::-1], (SEEN, [(), (1,)]), (SEEN, ([], [1])),
                 (SEEN, ((), (True,))), (SEEN, ((), (1,), ())), (SEEN, ((1,),)), (three, ((), (1,), ())),
                 (three, ((), (1,))), (SEEN.codes, ((), (1,))), (SEEN, None), (SEEN, 1), (ONE_WAY, ((), (1,))),
                 {SEEN.owners: ((), (1,))}, (right,), (None, ((), (1,)))]
        for thing in odd_things() + wrong + [(SEEN, odd) for odd in odd_things()] + [(odd, right[1]) for odd in odd_things()]:
            self.assertIs(is_showing(ONE_WAY, Web(2, ()), thing), False)
        self.assertIs(is_showing(ONE_WAY, Web(2, ()), right), True)

    def test_too_many(self):
        endless = Program((0,), ((("put", 0, 0), ("go", 0)), ()))
        for outcome in (((), ()), ((1,), ()), None, 5):
            with self.assertRaises(errors.TooMany) as caught:
                is_showing(TWO, ONE_WAY, (endless, outcome))
            self.assertEqual(caught.exception.most, 5000)
        # On the one web, or on the other one alone.
        busy = Program((0,), ((("put", 0, 0),) * 60, (("rest",), ("rest",))))
        for web, other_web in ((TWO, Web(2, ())), (Web(2, ()), TWO)):
            self.assertLess(many_standings(Web(2, ()), busy), 5000)
            with self.assertRaises(errors.TooMany):
                is_showing(web, other_web, (busy, ((), ())))
        # Not for what is no pair, or has another number of machines.
        for thing in ((endless,), [endless, ((), ())], (endless, ((), ()), 0), (Program((0,), (endless.codes[0],)), ((),))):
            self.assertIs(is_showing(TWO, ONE_WAY, thing), False)
