"""Promises 3.1 and 3.2: what grows, and what it tells. Also 0.2 to 0.5, as they speak of it."""

import unittest
from itertools import product

from growalong import errors
from growalong.growing import bar, growing, is_bar, is_made, is_trees, may_come, may_have_put, run_of, trees
from growalong.records import Record, record_of_any_size
from growalong.runs import is_run, led
from growalong.webs import Web, full, hub, line, reached, ring, web_of_any_size
from tests.made import made_record
from tests.odd import odd_things
from tests.slow import (all_diaries, all_lots, all_records, all_webs, growing_slowly, is_bar_slowly, is_trees_slowly)

RING = ring(4)
BARRED = Record((0, 1), ((0, 1), (1, 0), (0, 1), (1, 0)))
MADE = Record((0, 1), ((0, 1), (1, 0), (1, 0), (0, 1)))
TURNED = Record((0, 1, 2), ((0, 1, 2), (1, 2, 0), (2, 0, 1)))
SMALL = [(web, writers) for n, writers in
         ((1, (0, 0)), (2, (0, 1)), (2, (1, 1)), (2, (0, 1, 0)), (3, (0,)), (3, (2, 1))) for web in all_webs(n)]
FEW = [(full(3), (0, 1, 2)), (hub(3), (1, 2, 1)), (line(4), (0, 3)), (RING, (0, 1)),
       (Web(3, ((0, 1), (1, 2))), (0, 1, 0)), (Web(3, ((0, 1), (1, 2), (2, 0))), (0, 1, 2))]
LARGE = [made_record(web, puts, number, most) for number, (web, puts, most) in enumerate(
    ((full(7), 30, None), (ring(7), 30, None), (hub(7), 30, None), (line(7), 30, None), (ring(5), 12, None),
     (full(7), 30, 150), (ring(6), 25, 60), (full(4), 8, 20)))]


class Growing(unittest.TestCase):

    def test_each_wire(self):
        for web, record in LARGE + [(RING, BARRED), (RING, MADE), (full(3), TURNED)]:
            for put in range(len(record.writers)):
                self.assertEqual(growing(web, record, put), growing_slowly(web, record, put))
        for web in all_webs(2):
            for record in all_records(2, (0, 1, 0)):
                for put in range(3):
                    self.assertEqual(growing(web, record, put), growing_slowly(web, record, put))

    def test_both_machines_have_the_put(self):
        record = Record((0, 0), ((0, 1), (0,), ()))
        self.assertEqual(growing(full(3), record, 0), [(0, 1), (1, 0)])
        self.assertEqual(growing(full(3), record, 1), [])

    def test_only_wires_of_the_web(self):
        record = Record((0,), ((0,), (0,), (0,)))
        self.assertEqual(growing(Web(3, ((1, 2), (2, 0))), record, 0), [(1, 2), (2, 0)])
        self.assertEqual(growing(Web(3, ()), record, 0), [])

    def test_the_list_is_new(self):
        growing(full(3), TURNED, 0).clear()
        self.assertEqual(growing(full(3), TURNED, 0), [(0, 1), (0, 2), (2, 1)])

    def test_other_machines_then_no_put(self):
        for thing in odd_things() + [3, -1, "0", (0,), [0], True, False]:
            with self.assertRaises(errors.NoPut):
                growing(full(3), TURNED, thing)
            with self.assertRaises(errors.OtherMachines):
                growing(full(2), TURNED, thing)
        with self.assertRaises(errors.OtherMachines):
            growing(full(4), TURNED, 0)
        with self.assertRaises(errors.NoPut):
            growing(full(1), Record((), ((),)), 0)


class FirstFact(unittest.TestCase):

    def has_a_run(self, web, record):
        self.assertIs(is_made(web, record), True)
        self.assertIsNone(bar(web, record))
        told = trees(web, record)
        self.assertIs(type(told), tuple)
        self.assertIs(is_trees(web, record, told), True)
        self.assertTrue(is_trees_slowly(web, record, told))
        run = run_of(web, record)
        self.assertIs(type(run), list)
        self.assertIs(is_run(web, record, run), True)
        self.assertEqual(led(web, record.writers, run)[0], record.diaries)

    def has_none(self, web, record):
        self.assertIs(is_made(web, record), False)
        self.assertIsNone(trees(web, record))
        self.assertIsNone(run_of(web, record))
        told = bar(web, record)
        self.assertIs(type(told), tuple)
        self.assertIs(type(told[1]), tuple)
        self.assertEqual(list(told[1]), sorted(told[1]))
        self.assertIs(is_bar(web, record, told), True)
        self.assertTrue(is_bar_slowly(web, record, *told))

    def test_just_where_steps_lead(self):
        for web, writers in SMALL + FEW[:3]:
            there = all_diaries(web, writers)
            for record in all_records(web.machines, writers) if web.machines < 4 else []:
                if record.diaries in there:
                    self.has_a_run(web, record)
                else:
                    self.has_none(web, record)

    def test_wherever_steps_lead(self):
        for web, writers in FEW:
            for diaries in all_diaries(web, writers):
                self.has_a_run(web, Record(writers, diaries))

    def test_larger_ones(self):
        for web, record in LARGE:
            self.has_a_run(web, record)
            self.assertEqual([len(web.wires) > 0, len(record.writers) > 0], [True, True])
        self.has_none(RING, BARRED)
        self.has_a_run(RING, MADE)

    def test_two_puts_that_stand_otherwise_than_at_the_writer(self):
        for web, record in LARGE:
            for machine in range(web.machines):
                diary = record.diaries[machine]
                for at in range(0, len(diary) - 1, 7):
                    turned = diary[:at] + (diary[at + 1], diary[at]) + diary[at + 2:]
                    other = Record(record.writers, record.diaries[:machine] + (turned,) + record.diaries[machine + 1:])
                    if is_made(web, other):
                        self.has_a_run(web, other)
                    else:
                        self.has_none(web, other)

    def test_no_puts(self):
        for machines in range(1, 8):
            record = Record((), ((),) * machines)
            self.assertEqual(trees(full(machines), record), ())
            self.assertEqual(run_of(full(machines), record), [])
            self.assertIsNone(bar(full(machines), record))
            self.assertIs(is_made(Web(machines, ()), record), True)

    def test_a_put_that_only_its_writer_has(self):
        record = Record((1,), ((), (0,)))
        self.assertEqual(trees(Web(2, ()), record), ((None, None),))
        self.assertEqual(run_of(Web(2, ()), record), [("put", 0)])

    def test_what_is_returned_is_new(self):
        run_of(RING, MADE).clear()
        self.assertIs(is_run(RING, MADE, run_of(RING, MADE)), True)

    def test_equal_calls_give_equal_answers(self):
        for web, record in LARGE:
            again = (Web(web.machines, tuple(list(web.wires))), Record(record.writers, tuple(list(record.diaries))))
            for function in (trees, run_of, bar):
                self.assertEqual(function(web, record), function(*again))

    def test_other_machines(self):
        for web in (full(3), full(5), Web(1, ())):
            for function in (trees, run_of, bar, is_made):
                with self.assertRaises(errors.OtherMachines):
                    function(web, MADE)
            for thing in (None, (), (0, (2,)), trees(RING, MADE)):
                for function in (is_trees, is_bar):
                    with self.assertRaises(errors.OtherMachines):
                        function(web, MADE, thing)


class Judging(unittest.TestCase):

    def test_all_trees_of_small_records(self):
        entries = (None, 0, 1, 2)
        for web, record in ((full(3), Record((0,), ((0,), (0,), (0,)))), (full(3), Record((1,), ((0,), (0,), ()))),
                            (line(3), Record((2,), ((0,), (0,), (0,)))),
                            (full(3), Record((0, 1), ((0, 1), (1, 0), (1, 0))))):
            rows = list(product(entries, repeat=3))
            many = 0
            for thing in product(rows, repeat=len(record.writers)):
                self.assertIs(is_trees(web, record, thing), is_trees_slowly(web, record, thing))
                many += is_trees(web, record, thing)
            self.assertGreater(many, 0)

    def test_trees_with_one_thing_changed(self):
        for web, record in LARGE:
            told = trees(web, record)
            for put in range(0, len(told), 5):
                for machine in range(web.machines):
                    for entry in [None, *range(web.machines)]:
                        tree = told[put][:machine] + (entry,) + told[put][machine + 1:]
                        thing = told[:put] + (tree,) + told[put + 1:]
                        self.assertIs(is_trees(web, record, thing), is_trees_slowly(web, record, thing))

    def test_trees_that_go_round(self):
        record = Record((0,), ((0,), (0,), (0,)))
        self.assertIs(is_trees(full(3), record, ((None, 0, 1),)), True)
        self.assertIs(is_trees(full(3), record, ((None, 2, 1),)), False)
        self.assertIs(is_trees(full(3), record, ((None, 1, 0),)), False)
        self.assertIs(is_trees(full(3), record, ((1, 0, 0),)), False)

    def test_other_things_for_trees(self):
        record = Record((0, 0), ((0, 1), (0, 1)))
        self.assertIs(is_trees(full(2), record, ((None, 0), (None, 0))), True)
        wrong = [[(None, 0), (None, 0)], ([None, 0], (None, 0)), ((None, 0),), ((None, 0),) * 3, ((None, 0), (None,)),
                 ((None, 0, None), (None, 0)), ((None, False), (None, 0)), ((None, "0"), (None, 0)), ((None, 0), None),
                 ((None, (0,)), (None, 0)), ((None, [0]), (None, 0)), ((None, -1), (None, 0)), ((None, 2), (None, 0)),
                 ((False, 0), (None, 0)), ((0, 0), (None, 0)), ((None, 0), (None, None))]
        for thing in wrong + odd_things():
            self.assertIs(is_trees(full(2), record, thing), False)
            self.assertIs(is_trees(full(2), record, (thing, (None, 0))), False)
            self.assertIs(is_trees(full(2), record, ((None, thing), (None, 0))), False)
            if thing is not None:
                self.assertIs(is_trees(full(2), record, ((thing, 0), (None, 0))), False)
            if thing != ():
                self.assertIs(is_trees(full(2), Record((), ((), ())), thing), False)
        self.assertIs(is_trees(full(2), Record((), ((), ())), ()), True)
        self.assertIs(is_trees(full(2), Record((), ((), ())), []), False)

    def test_a_flag_where_a_machine_should_be(self):
        record = Record((1,), ((0,), (0,)))
        self.assertIs(is_trees(full(2), record, ((1, None),)), True)
        self.assertIs(is_trees(full(2), record, ((True, None),)), False)

    def test_all_bars_of_small_records(self):
        webs = [RING, full(4), Web(4, ()), hub(4), Web(4, ((0, 1), (1, 2), (2, 3)))]
        records = [BARRED, MADE, Record((0, 1), ((0,), (1, 0), (), (0,))), Record((3, 3), ((1,), (0,), (0, 1), (1, 0)))]
        for web in webs:
            for record in records:
                some = False
                for put in range(2):
                    for lot in all_lots(4):
                        due = is_bar_slowly(web, record, put, lot)
                        self.assertIs(is_bar(web, record, (put, lot)), due)
                        some = some or due
                self.assertIs(some, not is_made(web, record))

    def test_bars_with_one_thing_changed(self):
        self.assertIs(is_bar(RING, BARRED, (0, (2,))), True)
        wrong = [(1, (2,)), (0, (1,)), (0, ()), (0, (0, 2)), (0, (2, 2)), (0, [2]), [0, (2,)], (0, 2), (0, (2,), ()),
                 (0,), (0, (4,)), (0, (-1,)), (2, (2,)), (-1, (2,)), (False, (2,)), (0, (True, 2)), ("0", (2,)),
                 (0, ("2",)), (0, (None,)), (0, ((2,),)), (0, {2: 2}), (0, "2"), ((2,), 0)]
        for thing in wrong + odd_things():
            self.assertIs(is_bar(RING, BARRED, thing), False)
            self.assertIs(is_bar(RING, BARRED, (0, thing)), False)
            self.assertIs(is_bar(RING, BARRED, (thing, (2,))), False)
            self.assertIs(is_bar(RING, BARRED, (0, (thing,))), False)
            self.assertIs(is_bar(RING, BARRED, (0, (2, thing))), False)

    def test_lots_that_do_not_ascend(self):
        record = Record((0,), ((0,), (0,), (0,)))
        web = Web(3, ((1, 2),))
        self.assertIs(is_bar(web, record, (0, (1, 2))), True)
        self.assertIs(is_bar(web, record, (0, (1,))), True)
        self.assertIs(is_bar(web, record, (0, (2,))), False)
        self.assertIs(is_bar(web, record, (0, (2, 1))), False)
        self.assertIs(is_bar(web, record, (0, (1, 1, 2))), False)
        self.assertIs(is_bar(web, record, (0, (True, 2))), False)
        self.assertIs(is_bar(web, Record((0,), ((0,), (0,), ())), (0, (1, 2))), False)


class MoreThanAConstructorLets(unittest.TestCase):

    def large(self, machines, puts):
        web = web_of_any_size(machines, [(k, (k + step) % machines) for k in range(machines) for step in (1, 3)])
        return made_record(web, puts, machines)

    def test_many_machines_and_puts(self):
        for machines, puts in ((9, 35), (20, 60), (40, 5)):
            web, record = self.large(machines, puts)
            self.assertIs(is_made(web, record), True)
            self.assertIsNone(bar(web, record))
            self.assertIs(is_trees(web, record, trees(web, record)), True)
            self.assertTrue(is_trees_slowly(web, record, trees(web, record)))
            run = run_of(web, record)
            if len(run) <= 4000:
                self.assertIs(is_run(web, record, run), True)
            self.assertIn(record.writers[3], may_have_put(web, record, 3))
            self.assertEqual(may_come(web, record, 1), ())
            self.assertEqual(growing(web, record, 4), growing_slowly(web, record, 4))

    def test_a_bar_of_many_machines(self):
        web = web_of_any_size(50, [(k, k + 1) for k in range(49) if k != 20])
        record = record_of_any_size((0,) * 40, (tuple(range(40)),) * 50)
        self.assertIs(is_made(web, record), False)
        self.assertIs(is_bar(web, record, bar(web, record)), True)
        self.assertIs(is_bar(web, record, (39, tuple(range(21, 50)))), True)
        self.assertIsNone(trees(web, record))
        self.assertIsNone(run_of(web, record))

    def test_a_long_way(self):
        many = 3000
        web = web_of_any_size(many, [(k, k + 1) for k in range(many - 1)])
        record = record_of_any_size((0,), ((0,),) * many)
        self.assertEqual(trees(web, record), ((None, *range(many - 1)),))
        self.assertIs(is_trees(web, record, ((None, *range(many - 1)),)), True)
        self.assertIs(is_run(web, record, run_of(web, record)), True)
        short = record_of_any_size((0,), ((0,),) * (many - 1) + ((),))
        self.assertEqual(may_come(web, short, many - 1), (0,))
        self.assertEqual(len(reached(web, 0)), many)


class SecondFact(unittest.TestCase):

    def test_may_have_put(self):
        for web, writers in SMALL + FEW:
            there = sorted(all_diaries(web, writers))
            others = {}
            for put in range(len(writers)):
                for machine in range(web.machines):
                    changed = writers[:put] + (machine,) + writers[put + 1:]
                    others[put, machine] = all_diaries(web, changed)
            for diaries in there[::3]:
                for put in range(len(writers)):
                    due = tuple([x for x in range(web.machines) if diaries in others[put, x]])
                    self.assertEqual(may_have_put(web, Record(writers, diaries), put), due)

    def test_larger_ones(self):
        for web, record in LARGE:
            for put in range(len(record.writers)):
                due = []
                for machine in range(web.machines):
                    changed = record.writers[:put] + (machine,) + record.writers[put + 1:]
                    if put in record.diaries[machine] and is_made(web, Record(changed, record.diaries)):
                        due.append(machine)
                self.assertEqual(may_have_put(web, record, put), tuple(due))

    def test_a_put_that_only_its_writer_has(self):
        self.assertEqual(may_have_put(full(3), Record((1,), ((), (0,), ())), 0), (1,))
        self.assertEqual(may_have_put(Web(1, ()), Record((0,), ((0,),)), 0), (0,))
        self.assertEqual(may_have_put(full(2), Record((0,), ((0,), (0,))), 0), (0, 1))

    def test_the_order_of_the_errors(self):
        for thing in odd_things() + [2, -1, True, "0"]:
            with self.assertRaises(errors.OtherMachines):
                may_have_put(full(3), BARRED, thing)
            with self.assertRaises(errors.NoPut):
                may_have_put(RING, BARRED, thing)
            with self.assertRaises(errors.NoPut):
                may_have_put(RING, MADE, thing)
        with self.assertRaises(errors.OtherMachines):
            may_have_put(full(3), BARRED, 0)
        for put in (0, 1):
            with self.assertRaises(errors.NotMade):
                may_have_put(RING, BARRED, put)


class MayCome(unittest.TestCase):

    def test_against_all_records_with_one_put_more(self):
        seen = set()
        for web, writers in SMALL + FEW:
            there = sorted(all_diaries(web, writers))
            for diaries in there[::1 if len(there) < 60 else 17]:
                for machine in range(web.machines):
                    due = set()
                    for later in there:
                        if self.begins_with(later, diaries) and len(later[machine]) == len(diaries[machine]) + 1:
                            due.add(later[machine][-1])
                    told = may_come(web, Record(writers, diaries), machine)
                    self.assertEqual(told, tuple(sorted(due)), (web.wires, writers, diaries, machine))
                    seen.add(told)
        self.assertGreater(len(seen), 5)

    def begins_with(self, later, diaries):
        return all([after[:len(diary)] == diary for after, diary in zip(later, diaries)])

    def test_others_write_more_ahead_of_that(self):
        web = Web(3, ((0, 1), (1, 2)))
        self.assertEqual(may_come(web, Record((0, 0), ((0, 1), (), ())), 2), (0,))
        self.assertEqual(may_come(web, Record((0, 0), ((0, 1), (), ())), 1), (0,))
        self.assertEqual(may_come(web, Record((0, 0), ((0, 1), (0,), (0,))), 2), (1,))
        self.assertEqual(may_come(web, Record((0, 0), ((0, 1), (0,), ())), 2), (0,))
        self.assertEqual(may_come(web, Record((0, 0), ((0, 1), (0, 1), (0, 1))), 2), ())
        self.assertEqual(may_come(full(3), Record((0, 1), ((0,), (1,), ())), 2), (0, 1))
        self.assertEqual(may_come(web, Record((0, 1), ((0,), (1,), ())), 2), (1,))
        self.assertEqual(may_come(web, Record((0, 1), ((0,), (1, 0), (1,))), 2), (0,))

    def test_the_machine_itself_is_on_no_way(self):
        self.assertEqual(may_come(Web(3, ((0, 2), (2, 1))), Record((0,), ((0,), (), ())), 1), (0,))
        self.assertEqual(may_come(Web(3, ((0, 2),)), Record((0,), ((0,), (), ())), 1), ())

    def test_the_order_of_the_errors(self):
        for thing in odd_things() + [4, -1, True, False, "0", (0,)]:
            with self.assertRaises(errors.OtherMachines):
                may_come(full(3), BARRED, thing)
            with self.assertRaises(errors.NoMachine):
                may_come(RING, BARRED, thing)
            with self.assertRaises(errors.NoMachine):
                may_come(RING, MADE, thing)
        for machine in range(4):
            with self.assertRaises(errors.NotMade):
                may_come(RING, BARRED, machine)
            self.assertEqual(may_come(RING, MADE, machine), ())
