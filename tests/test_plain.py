"""Promise 10.2: one plain memory. Also 0.2 to 0.5, as they speak of it."""

import unittest
from copy import deepcopy
from itertools import combinations

from growalong import errors
from growalong.outcomes import outcomes
from growalong.plain import fewest_rests, not_plain, plain_outcomes
from growalong.programs import Program, put_rests, waits_of
from growalong.webs import Web, full, line
from tests.made import numbers
from tests.slowbench import SlowBench, chance_program, counting

TWO = full(2)
REST = ("rest",)
CROSSED = Program((0, 1), ((("set", 0, 1), ("put", 0, 0), ("look", 1, 1), ("tell", 1)),
                           (("set", 0, 1), ("put", 1, 0), ("look", 1, 0), ("tell", 1))))


class OneMemory(SlowBench):
    """A slow bench on which each put is written by all at once."""

    def perform_do(self, x):
        super().perform_do(x)
        for number, (_, cell, worth) in enumerate(self.puts):
            for machine in self.machines:
                if number not in machine["diary"]:
                    machine["diary"].append(number)
                    machine["cells"][cell] = worth

    def memory_standing(self):
        return tuple([(self.state(x), machine["row"], tuple(machine["registers"]), tuple(machine["remembered"]),
                       self.told[x], tuple(machine["cells"])) for x, machine in enumerate(self.machines)])


def plain_slowly(program):
    """All outcomes with one memory, by trying all steps, and how many standings there are."""
    first = OneMemory(Web(len(program.codes), ()), program)
    found, left = {first.memory_standing(): first}, [first]
    while left:
        here = left.pop()
        for step in here.can():
            there = deepcopy(here)
            there.perform(step)
            if there.memory_standing() not in found:
                found[there.memory_standing()] = there
                left.append(there)
    return sorted({slow.outcome() for slow in found.values() if slow.outcome() is not None}), len(found)


def busy_programs(seeds, machines=2, rows=4):
    """Programs whose machines put 1 and 2 into a cell of their own, look at the others' cells, and tell."""
    for seed in seeds:
        chance = numbers(seed)
        codes = []
        for machine in range(machines):
            code = [("set", 0, 1)] + [("put", machine, 0)] * (next(chance) % 4 > 0)
            while len(code) < rows:
                other = (machine + 1 + next(chance) % (machines - 1)) % machines
                code.extend([[("put", machine, 0)], [("look", 1, other), ("tell", 1)], [("look", 1, other), ("tell", 1)],
                             [("set", 0, 2), ("put", machine, 0)]][next(chance) % 4])
            codes.append(tuple(code))
        yield Program(tuple(range(machines)), tuple(codes))


def fewest_slowly(web, program):
    plain = plain_outcomes(program)
    places = waits_of(program)
    for many in range(len(places) + 1):
        for lot in combinations(places, many):
            if set(outcomes(web, put_rests(program, lot))) <= set(plain):
                return lot
    return None


class Plain(unittest.TestCase):

    def test_example(self):
        self.assertEqual(plain_outcomes(CROSSED), [((0,), (1,)), ((1,), (0,)), ((1,), (1,))])
        self.assertEqual(not_plain(TWO, CROSSED), ((0,), (0,)))
        self.assertEqual(fewest_rests(TWO, CROSSED), ((0, 1), (1, 1)))

    def test_against_slow_ones(self):
        for program in [*busy_programs(range(20)), *[chance_program(2, 5, seed) for seed in range(80)]]:
            try:
                told = plain_outcomes(program)
            except errors.TooMany:
                continue
            self.assertEqual(told, plain_slowly(program)[0])

    def test_rests_wait_for_nothing(self):
        program = Program((0,), ((("put", 0, 0), REST, ("tell", 0)), (REST,)))
        self.assertEqual(plain_outcomes(program), [((0,), ())])
        self.assertEqual(outcomes(Web(2, ()), program), [])
        self.assertEqual(outcomes(TWO, program), [((0,), ())])

    def test_each_put_is_written_by_all_at_once(self):
        program = Program((0,), ((("set", 0, 1), ("put", 0, 0), ("look", 1, 0), ("tell", 1)), (), (("look", 0, 0), ("tell", 0))))
        self.assertEqual(plain_outcomes(program), [((1,), (), (0,)), ((1,), (), (1,))])

    def test_a_fault_and_what_never_ends(self):
        for code in ((("back",),), (("go", 0),), (("call", 0),)):
            self.assertEqual(plain_outcomes(Program((0,), (code, (("tell", 0),)))), [])
        self.assertEqual(plain_outcomes(Program((0,), ((), ()))), [((), ())])

    def test_which_standings_are_alike(self):
        # Puts of the same in unlike orders are alike here: only what the cells hold counts.
        code = (("put", 0, 0), ("go", 0))
        self.assertEqual(plain_outcomes(Program((0,), (code, ()))), [])
        with self.assertRaises(errors.TooMany) as caught:
            outcomes(TWO, Program((0,), (code, ())))
        self.assertEqual(caught.exception.most, 5000)

    def test_five_thousand(self):
        fits = Program((0,), ((REST,) * 49, (REST,) * 49, (REST,)))
        self.assertEqual(plain_outcomes(fits), [((), (), ())])
        self.assertEqual(plain_slowly(Program((0,), fits.codes[1:]))[1], 100)
        over = Program((0,), ((REST,) * 40, (REST,) * 60, (REST,)))
        endless = Program((0,), ((("tell", 0), ("go", 0)),))
        for asked in (lambda: plain_outcomes(over), lambda: not_plain(full(3), over), lambda: plain_outcomes(endless),
                      lambda: fewest_rests(full(3), over), lambda: not_plain(full(1), endless)):
            with self.assertRaises(errors.TooMany) as caught:
                asked()
            self.assertEqual(caught.exception.most, 5000)
        self.assertEqual(plain_outcomes(counting(4999)), [((),)])
        with self.assertRaises(errors.TooMany):
            plain_outcomes(counting(5001))
        # Few with one memory, but many with letters.
        puts = Program((0,), ((("put", 0, 0), ("go", 0)), ()))
        with self.assertRaises(errors.TooMany):
            not_plain(TWO, puts)
        with self.assertRaises(errors.TooMany):
            fewest_rests(TWO, puts)

    def test_other_machines(self):
        seven = Program((0,), ((("put", 0, 0),) * 7,))
        endless = Program((0,), ((("tell", 0), ("go", 0)),))
        for web in (full(2), full(3)):
            for program in (seven, endless):
                for asked in (not_plain, fewest_rests):
                    with self.assertRaises(errors.OtherMachines):
                        asked(web, program)


class NotPlain(unittest.TestCase):

    def test_the_least_one(self):
        found = 0
        for web in (TWO, Web(2, ((0, 1),)), Web(2, ())):
            for program in busy_programs(range(25)):
                plain, told = plain_outcomes(program), outcomes(web, program)
                other = sorted(set(told) - set(plain))
                self.assertEqual(not_plain(web, program), other[0] if other else None)
                found += bool(other)
        self.assertGreater(found, 5)

    def test_with_all_rests_outcomes_are_plain(self):
        checked = 0
        plays = [(TWO, program) for program in busy_programs(range(30), rows=5)]
        for web in (line(3), Web(3, ((0, 1), (1, 2), (2, 0)))):
            plays.extend([(web, program) for program in busy_programs(range(20), 3, 3)])
        for web, program in plays:
            try:
                told = outcomes(web, put_rests(program, waits_of(program)))
            except errors.TooMany:
                continue
            self.assertLessEqual(set(told), set(plain_outcomes(program)))
            self.assertNotEqual(told, [])
            checked += 1
        self.assertGreater(checked, 25)

    def test_none(self):
        self.assertIsNone(not_plain(full(1), Program((0,), ((("put", 0, 0), ("look", 0, 0), ("tell", 0)),))))
        self.assertIsNone(not_plain(TWO, put_rests(CROSSED, waits_of(CROSSED))))
        self.assertIsNone(not_plain(TWO, Program((0,), ((("back",),), ()))))


class FewestRests(unittest.TestCase):

    def test_against_slow_ones(self):
        told = set()
        for web in (TWO, Web(2, ((1, 0),)), Web(2, ())):
            for program in [*busy_programs(range(20)), CROSSED]:
                if len(waits_of(program)) <= 4:
                    lot = fewest_rests(web, program)
                    self.assertEqual(lot, fewest_slowly(web, program))
                    told.add(lot)
        self.assertIn((), told)
        self.assertGreater(len(told), 2)

    def test_three_machines(self):
        # What 1 saw of 0 the machine 2 may see later, unless one of both waits.
        program = Program((0, 1), ((("set", 0, 1), ("put", 0, 0)), (("look", 0, 0), ("put", 1, 0)),
                                   (("look", 0, 1), ("tell", 0), ("look", 0, 0), ("tell", 0))))
        web = Web(3, ((0, 1), (0, 2), (1, 2)))
        self.assertIsNone(not_plain(web, program))
        behind = Web(3, ((0, 1), (1, 2)))
        self.assertIsNone(not_plain(behind, program))
        self.assertEqual(fewest_rests(behind, program), ())

    def test_rests_that_never_end(self):
        # Nothing comes anywhere: a rest behind a put leaves no outcome at all.
        self.assertEqual(not_plain(Web(2, ()), CROSSED), ((0,), (0,)))
        self.assertEqual(fewest_rests(Web(2, ()), CROSSED), ((0, 1),))

    def test_too_many(self):
        seven = Program((0, 1), ((("put", 0, 0),) * 4, (("look", 0, 0),) * 3))
        endless = Program((0,), ((("put", 0, 0),) * 6 + (("look", 0, 0), ("tell", 0), ("go", 7)),))
        for web, program in ((TWO, seven), (full(1), endless)):
            with self.assertRaises(errors.TooMany) as caught:
                fewest_rests(web, program)
            self.assertEqual(caught.exception.most, 6)
        six = Program((0,), ((("put", 0, 0),) * 3, (("look", 0, 0),) * 3))
        self.assertEqual(fewest_rests(TWO, six), ())

    def test_more_than_sixty_rows_with_the_rests(self):
        # The idle rows stand behind what matters, so that there are few standings.
        code = (("set", 0, 1), ("put", 0, 0), ("look", 1, 1), ("tell", 1))
        other = (("set", 0, 1), ("put", 1, 0), ("look", 1, 0), ("tell", 1))
        many = Program((0, 1), (code + (("go", 60),) * 56, other))
        self.assertEqual(len(many.codes[0]), 60)
        self.assertEqual(fewest_rests(TWO, many), ((0, 1), (1, 1)))
        with self.assertRaises(errors.TooMany) as caught:
            put_rests(many, ((0, 1), (1, 1)))
        self.assertEqual(caught.exception.most, 60)

    def test_too_many_standings_up_to_the_answer_alone(self):
        # Without rests all outcomes are plain, so nothing else is asked.
        program = Program((0,), ((("put", 0, 0), ("put", 0, 0)), (REST,) * 40))
        self.assertEqual(fewest_rests(TWO, program), ())
