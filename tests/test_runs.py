"""Promise 2.2: steps and runs. Also 0.2 to 0.4, as they speak of runs."""

import unittest

from growalong import errors
from growalong.records import Record
from growalong.runs import is_run, led
from growalong.webs import Web, both_ways, full, hub, line
from tests.odd import odd_things

TWO = full(2)


def not_steps():
    """Things that are no steps on the web of two machines, with one put of each."""
    return odd_things() + [
        (), ("put",), ("put", 2), ("put", -1), ("put", True), ("put", False), ("put", "0"), ("put", (0,)),
        ("put", None), ("put", 0, 0), ["put", 0], ("puts", 0), ("Put", 0), (b"put", 0), (0, "put"), ("come",),
        ("come", 0), ("come", (0, 1)), ("come", 0, 0), ("come", 0, 2), ("come", 2, 0), ("come", -1, 0),
        ("come", True, 0), ("come", 0, True), ("come", 0, [1]), ["come", 0, 1], ("come", 0, 1, 0), ("come", {}, 1),
        ("do", 0), (("put", 0),), "put 0", {"put": 0}, 0]


def all_steps(web, writers):
    return [("put", p) for p in range(len(writers))] + [("come", y, x) for y, x in web.wires]


def simply_led(web, writers, steps):
    """What led tells, told once more in another way; None if some step can't be done."""
    diaries = [()] * web.machines
    letters = {wire: () for wire in web.wires}
    for step in steps:
        if step[0] == "put":
            machine, put = writers[step[1]], step[1]
            if put in diaries[machine]:
                return None
        else:
            machine = step[2]
            if letters[step[1:]] == ():
                return None
            put = letters[step[1:]][0]
            letters[step[1:]] = letters[step[1:]][1:]
            if put in diaries[machine]:
                continue
        diaries[machine] += (put,)
        letters = {wire: told + (put,) * (wire[0] == machine) for wire, told in letters.items()}
    return (tuple(diaries), letters)


class Led(unittest.TestCase):

    def bad(self, web, writers, steps, index):
        with self.assertRaises(errors.BadStep) as caught:
            led(web, writers, steps)
        self.assertEqual(caught.exception.index, index)

    def test_puts_and_letters(self):
        steps = [("put", 0)]
        self.assertEqual(led(TWO, (0,), steps), (((0,), ()), {(0, 1): (0,), (1, 0): ()}))
        steps = [("put", 0), ("come", 0, 1)]
        self.assertEqual(led(TWO, (0,), steps), (((0,), (0,)), {(0, 1): (), (1, 0): (0,)}))
        steps = [("put", 0), ("come", 0, 1), ("come", 1, 0)]
        self.assertEqual(led(TWO, (0,), steps), (((0,), (0,)), {(0, 1): (), (1, 0): ()}))

    def test_letters_keep_their_order(self):
        steps = [("put", 1), ("put", 0), ("come", 0, 1)]
        self.assertEqual(led(TWO, (0, 0), steps), (((1, 0), (1,)), {(0, 1): (0,), (1, 0): (1,)}))

    def test_a_letter_of_a_put_that_a_machine_has(self):
        ring = full(3)
        steps = [("put", 0), ("come", 0, 1), ("come", 0, 2), ("come", 1, 2)]
        letters = {(0, 1): (), (0, 2): (), (1, 0): (0,), (1, 2): (), (2, 0): (0,), (2, 1): (0,)}
        self.assertEqual(led(ring, (0,), steps), (((0,), (0,), (0,)), letters))

    def test_all_wires_of_the_sender_and_no_others(self):
        diaries, letters = led(hub(4), (1,), [("put", 0), ("come", 1, 0)])
        self.assertEqual(diaries, ((0,), (0,), (), ()))
        self.assertEqual({wire for wire in letters if letters[wire]}, {(0, 1), (0, 2), (0, 3)})
        self.assertEqual(sorted(letters), list(hub(4).wires))

    def test_one_way_only(self):
        web = Web(3, ((0, 1), (1, 2)))
        steps = [("put", 0), ("put", 1), ("come", 0, 1), ("come", 1, 2), ("come", 1, 2)]
        self.assertEqual(led(web, (1, 0), steps), (((1,), (0, 1), (0, 1)), {(0, 1): (), (1, 2): ()}))

    def test_an_empty_run(self):
        for steps in ([], ()):
            self.assertEqual(led(TWO, (), steps), (((), ()), {(0, 1): (), (1, 0): ()}))
            self.assertEqual(led(Web(1, ()), (0,) * 30, steps), (((),), {}))
            self.assertEqual(led(full(7), (6,), steps), (((),) * 7, {wire: () for wire in full(7).wires}))

    def test_lists_and_tuples_of_steps(self):
        steps = [("put", 0), ("come", 0, 1)]
        self.assertEqual(led(TWO, (0,), steps), led(TWO, (0,), tuple(steps)))
        self.assertEqual(steps, [("put", 0), ("come", 0, 1)])

    def test_kinds_of_what_is_returned(self):
        told = led(TWO, (0,), [("put", 0)])
        self.assertIs(type(told), tuple)
        self.assertIs(type(told[0]), tuple)
        self.assertIs(type(told[1]), dict)
        self.assertEqual([type(diary) for diary in told[0]], [tuple, tuple])
        self.assertEqual([type(letters) for letters in told[1].values()], [tuple, tuple])
        told[1].clear()
        self.assertEqual(led(TWO, (0,), [("put", 0)]), (((0,), ()), {(0, 1): (0,), (1, 0): ()}))

    def test_all_short_runs(self):
        for web, writers in ((TWO, (0, 1)), (Web(2, ((1, 0),)), (1, 1)), (line(3), (1,)), (Web(1, ()), (0, 0))):
            steps = all_steps(web, writers)
            runs = [()]
            for _ in range(5):
                runs = [(*run, step) for run in runs for step in steps]
                for run in runs:
                    self.assertEqual(simply_led(web, writers, run) is not None, self.can_be_done(web, writers, run))
                runs = [run for run in runs if simply_led(web, writers, run) is not None]
                for run in runs:
                    self.assertEqual(led(web, writers, run), simply_led(web, writers, run))

    def can_be_done(self, web, writers, run):
        try:
            led(web, writers, run)
        except errors.BadStep as error:
            self.assertEqual(error.index, len(run) - 1)
            return False
        return True

    def test_no_writers(self):
        wrong = [[], [0], (2,), (0, 2), (-1,), (True,), (0, False), ("0",), (None,), ((0,),), (0,) * 31, 0, "0", {0: 0}]
        for thing in odd_things() + wrong:
            for steps in ([], None, [("put", 5)]):
                with self.assertRaises(errors.NoWriters):
                    led(TWO, thing, steps)
        with self.assertRaises(errors.NoWriters):
            led(Web(1, ()), (1,), [])
        self.assertEqual(led(TWO, (1,) * 30, [])[0], ((), ()))

    def test_no_list_or_tuple_of_steps(self):
        for thing in odd_things() + [{("put", 0): 0}, "put", 0]:
            if not isinstance(thing, (list, tuple)) or len(thing) > 4000:
                self.bad(TWO, (0, 1), thing, -1)

    def test_how_many_steps(self):
        self.bad(TWO, (0, 1), [("put", 0)] * 4001, -1)
        self.bad(TWO, (0, 1), (None,) * 4001, -1)
        self.bad(TWO, (0, 1), [("put", 0)] * 4000, 1)
        self.bad(TWO, (0, 1), (None,) * 4000, 0)

    def test_the_first_that_is_no_step(self):
        for thing in not_steps():
            self.bad(TWO, (0, 1), [thing], 0)
            self.bad(TWO, (0, 1), (thing, thing), 0)
            self.bad(TWO, (0, 1), [("put", 0), ("put", 1), thing, ("put", 0)], 2)

    def test_the_first_that_cannot_be_done(self):
        self.bad(TWO, (0, 1), [("come", 0, 1)], 0)
        self.bad(TWO, (0, 1), [("put", 0), ("put", 0)], 1)
        self.bad(TWO, (0, 1), [("put", 0), ("come", 0, 1), ("put", 0)], 2)
        self.bad(TWO, (0, 1), [("put", 0), ("come", 1, 0)], 1)
        self.bad(TWO, (0, 1), [("put", 0), ("come", 0, 1), ("come", 0, 1)], 2)
        self.bad(TWO, (0, 1), [("put", 0), ("come", 0, 1), ("come", 1, 0), ("come", 1, 0)], 3)
        self.bad(Web(2, ((0, 1),)), (0, 1), [("put", 1), ("come", 1, 0)], 1)
        self.bad(TWO, (), [("put", 0)], 0)


class IsRun(unittest.TestCase):

    record = Record((0, 1), ((0, 1), (1, 0)))
    steps = [("put", 0), ("put", 1), ("come", 0, 1), ("come", 1, 0)]

    def test_runs(self):
        for thing in (self.steps, tuple(self.steps), self.steps + [("come", 1, 0), ("come", 0, 1)]):
            self.assertIs(is_run(TWO, self.record, thing), True)
        self.assertIs(is_run(TWO, Record((), ((), ())), []), True)
        self.assertIs(is_run(TWO, Record((), ((), ())), ()), True)
        self.assertIs(is_run(Web(2, ()), Record((1,), ((), (0,))), [("put", 0)]), True)

    def test_steps_that_lead_elsewhere(self):
        for thing in ([], self.steps[:1], self.steps[:3],
                      [("put", 0), ("come", 0, 1), ("put", 1), ("come", 1, 0), ("come", 1, 0)]):
            self.assertIs(is_run(TWO, self.record, thing), False)

    def test_steps_that_cannot_be_done(self):
        for thing in (self.steps + [("put", 0)], [("come", 0, 1)], self.steps[1:],
                      self.steps + [("come", 0, 1), ("come", 0, 1)]):
            self.assertIs(is_run(TWO, self.record, thing), False)
        self.assertIs(is_run(Web(2, ((0, 1),)), self.record, self.steps), False)

    def test_any_other_thing(self):
        for thing in odd_things() + [None, 0, "run", {0: ("put", 0)}, self.record]:
            self.assertIs(is_run(TWO, self.record, thing), False)
            self.assertIs(is_run(TWO, Record((), ((), ())), (thing,)), False)
        for thing in not_steps():
            self.assertIs(is_run(TWO, self.record, self.steps + [thing]), False)
            self.assertIs(is_run(TWO, self.record, [thing, *self.steps]), False)

    def test_how_many_steps(self):
        many = full(7)
        run = [("put", p) for p in range(30)]
        run += [("come", y, x) for _ in range(30) for y in (0,) for x in range(1, 7)]
        record = Record((0,) * 30, (tuple(range(30)),) * 7)
        self.assertIs(is_run(many, record, run), True)
        self.assertIs(is_run(TWO, Record((), ((), ())), [("put", 0)] * 4001), False)

    def test_other_machines(self):
        for thing in (self.steps, None, [None]):
            for web in (full(3), Web(1, ())):
                with self.assertRaises(errors.OtherMachines):
                    is_run(web, self.record, thing)

    def test_the_thing_is_not_changed(self):
        steps = list(self.steps)
        is_run(TWO, self.record, steps)
        is_run(TWO, self.record, steps + [None])
        self.assertEqual(steps, self.steps)

    def test_a_wire_more_does_no_harm(self):
        web = both_ways(3, [(0, 1), (1, 2)])
        record = Record((0,), ((0,), (0,), (0,)))
        run = [("put", 0), ("come", 0, 1), ("come", 1, 2)]
        self.assertIs(is_run(web, record, run), True)
        self.assertIs(is_run(full(3), record, run), True)
