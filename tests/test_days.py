"""Promises 4.1 and 4.2: days that one web made. Also 0.2 to 0.5, as they speak of them."""

import unittest
from itertools import product

from growalong import errors
from growalong.days import fewest_wires, is_least_web, sure_wires, thinned, uncaused
from growalong.growing import is_made
from growalong.records import Record, ahead, record_of_any_size
from growalong.webs import Web, full, hub, line, ring, web_of_any_size, with_wire, without_wire
from tests.made import made_record
from tests.odd import odd_things
from tests.slow import all_records, all_wires, all_webs

TURNED = Record((0, 1, 2), ((0, 1, 2), (1, 2, 0), (2, 0, 1)))
ALL_WEBS = {n: all_webs(n) for n in (1, 2, 3)}
EMPTY = Record((), ((), ()))
WRONG_FOR_TWO = Record((0, 0), ((0, 1), (1, 0)))


def made_them(web, days):
    return all([is_made(web, day) for day in days])


def small_days():
    """Lists of days of up to three machines, made by some web and by none."""
    lists = [[record] for record in all_records(2, (0, 1))]
    lists += [[record] for record in all_records(2, (0, 0))]
    threes = list(all_records(3, (0, 1)))
    lists += [[record] for record in threes[::2]]
    lists += [[threes[at], threes[at - 7]] for at in range(7, len(threes), 11)]
    lists += [[threes[at], threes[at - 3], threes[at - 5]] for at in range(5, len(threes), 29)]
    for web in ALL_WEBS[3][::3]:
        lists.append([made_record(web, 4, seed, 9)[1] for seed in range(3)])
    lists += [[TURNED], [TURNED, TURNED], [Record((0,), ((0,),))], [Record((), ((), (), ()))]]
    return lists


SMALL = small_days()
LARGE = [[made_record(web, puts, seed, most)[1] for seed in range(many)] for web, puts, many, most in
         ((full(7), 30, 10, None), (ring(7), 10, 2, None), (hub(7), 4, 3, 30), (line(4), 5, 2, None),
          (ring(4), 3, 5, 12))]


def uncaused_slowly(days):
    found = []
    for number, day in enumerate(days):
        puts = range(len(day.writers))
        for p, q, x in product(puts, puts, range(len(day.diaries))):
            if q in ahead(day, day.writers[p], p) and p in day.diaries[x] and q not in ahead(day, x, p):
                found.append((number, p, q, x))
    return min(found) if found else None


class Days(unittest.TestCase):

    functions = (uncaused, sure_wires, fewest_wires, lambda days: thinned(days, full(2)),
                 lambda days: thinned(days, full(3)), lambda days: is_least_web(days, full(2)),
                 lambda days: is_least_web(days, None))

    def test_no_days(self):
        two = Record((0,), ((0,), ()))
        wrong = [[], (), [EMPTY] * 11, (two,) * 11, [two, TURNED], [TURNED, two], (EMPTY, Record((), ((),))), EMPTY,
                 two, [two, None], [None, two], [two, [two]], {0: two}, {"a": two}, [two, full(2)], [full(2)], [two, 0],
                 [two.diaries], [(two.writers, two.diaries)], "days", 1, [Record], [WRONG_FOR_TWO, TURNED],
                 [WRONG_FOR_TWO] * 11]
        for thing in wrong + odd_things():
            for function in self.functions:
                with self.assertRaises(errors.NoDays):
                    function(thing)
            for function in self.functions if not isinstance(thing, Record) else ():
                with self.assertRaises(errors.NoDays):
                    function([two, thing])

    def test_lists_and_tuples(self):
        for days in SMALL[::9]:
            self.assertEqual(uncaused(days), uncaused(tuple(days)))
            if uncaused(days) is None:
                kept = list(days)
                self.assertEqual(sure_wires(days), sure_wires(tuple(days)))
                self.assertEqual(fewest_wires(days), fewest_wires(tuple(days)))
                web = full(len(days[0].diaries))
                self.assertEqual(thinned(days, web), thinned(tuple(days), web))
                self.assertEqual(is_least_web(days, web), is_least_web(tuple(days), web))
                self.assertEqual(days, kept)

    def test_one_to_ten(self):
        for many in range(1, 11):
            self.assertIsNone(uncaused([EMPTY] * many))
            self.assertEqual(sure_wires((EMPTY,) * many), [])
            self.assertEqual(fewest_wires([EMPTY] * many), Web(2, ()))
            self.assertEqual(thinned([EMPTY] * many, full(2)), Web(2, ()))
            self.assertIs(is_least_web([EMPTY] * many, Web(2, ())), True)


class Uncaused(unittest.TestCase):

    def test_the_least_one(self):
        for days in SMALL + LARGE:
            self.assertEqual(uncaused(days), uncaused_slowly(days))
        self.assertEqual(uncaused([WRONG_FOR_TWO]), (0, 1, 0, 1))
        self.assertEqual(uncaused((EMPTY, EMPTY, WRONG_FOR_TWO)), (2, 1, 0, 1))
        record = Record((0,) * 4, ((3, 2, 1, 0), (), (0,), (0, 1)))
        self.assertEqual(uncaused([record]), (0, 0, 1, 2))
        record = Record((0,) * 4, ((3, 2, 1, 0), (3, 2, 0), (), (3, 1, 0)))
        self.assertEqual(uncaused([record]), (0, 0, 1, 1))
        self.assertEqual(uncaused([Record((0,) * 30, (tuple(range(30)), (29,)))]), (0, 29, 0, 1))

    def test_a_tuple(self):
        self.assertIs(type(uncaused([WRONG_FOR_TWO])), tuple)

    def test_the_third_fact(self):
        for days in SMALL:
            made = [made_them(web, days) for web in ALL_WEBS[len(days[0].diaries)]]
            self.assertIs(uncaused(days) is None, any(made))
            self.assertIs(uncaused(days) is None, made[-1])

    def test_several_days(self):
        found = {uncaused(days)[0] for days in SMALL if uncaused(days) is not None}
        self.assertEqual(found, {0, 1})
        for many in range(10):
            self.assertEqual(uncaused([EMPTY] * many + [WRONG_FOR_TWO]), (many, 1, 0, 1))


class SureWires(unittest.TestCase):

    def test_against_all_webs(self):
        for days in SMALL:
            webs = [web for web in ALL_WEBS[len(days[0].diaries)] if made_them(web, days)]
            if not webs:
                with self.assertRaises(errors.NoWeb):
                    sure_wires(days)
                continue
            told = sure_wires(days)
            self.assertIs(type(told), list)
            due = [wire for wire in webs[0].wires if all([wire in web.wires for web in webs])]
            self.assertEqual(told, due)

    def test_against_webs_that_lack_one_wire(self):
        for days in LARGE:
            web = full(len(days[0].diaries))
            due = [wire for wire in web.wires if not made_them(without_wire(web, wire), days)]
            self.assertEqual(sure_wires(days), due)

    def test_the_list_is_new(self):
        sure_wires([TURNED]).clear()
        self.assertEqual(sure_wires([TURNED]), [(0, 2), (1, 0), (2, 1)])

    def test_no_web(self):
        for days in ([WRONG_FOR_TWO], [EMPTY, WRONG_FOR_TWO], (WRONG_FOR_TWO, EMPTY)):
            for function in (sure_wires, fewest_wires):
                with self.assertRaises(errors.NoWeb):
                    function(days)


class Thinned(unittest.TestCase):

    def thinned_slowly(self, days, web):
        for wire in web.wires[::-1]:
            if made_them(without_wire(web, wire), days):
                web = without_wire(web, wire)
        return web

    def test_each_web_of_up_to_three_machines(self):
        for days in SMALL[::3]:
            for web in ALL_WEBS[len(days[0].diaries)]:
                if made_them(web, days):
                    told = thinned(days, web)
                    self.assertEqual(told, self.thinned_slowly(days, web))
                    self.assertIs(is_least_web(days, told), True)
                else:
                    with self.assertRaises(errors.NotMade):
                        thinned(days, web)

    def test_larger_ones(self):
        for days in LARGE:
            web = full(len(days[0].diaries))
            told = thinned(days, web)
            self.assertEqual(told, self.thinned_slowly(days, web))
            self.assertEqual(thinned(days, told), told)
            self.assertIs(is_least_web(days, told), True)

    def test_from_the_last_wire_to_the_first(self):
        day = Record((0,), ((0,), (0,), (0,)))
        self.assertEqual(thinned([day], full(3)), Web(3, ((0, 1), (0, 2))))
        self.assertEqual(thinned([day], Web(3, ((0, 1), (1, 2), (2, 1)))), Web(3, ((0, 1), (1, 2))))

    def test_other_machines_then_not_made(self):
        for web in (full(3), Web(1, ())):
            for days in ([EMPTY], [WRONG_FOR_TWO]):
                with self.assertRaises(errors.OtherMachines):
                    thinned(days, web)
        for web in ALL_WEBS[2]:
            with self.assertRaises(errors.NotMade):
                thinned([EMPTY, WRONG_FOR_TWO], web)
        with self.assertRaises(errors.NotMade):
            thinned([EMPTY, Record((1,), ((0,), (0,)))], Web(2, ((0, 1),)))


class LeastWebs(unittest.TestCase):

    def test_against_all_webs(self):
        for days in SMALL[::2]:
            machines = len(days[0].diaries)
            made = [web.wires for web in ALL_WEBS[machines] if made_them(web, days)]
            for web in ALL_WEBS[machines]:
                smaller = [wires for wires in made if set(wires) < set(web.wires)]
                self.assertIs(is_least_web(days, web), web.wires in made and not smaller)

    def test_some(self):
        day = Record((0,), ((0,), (0,), (0,)))
        self.assertIs(is_least_web([day], Web(3, ((0, 2), (2, 1)))), True)
        self.assertIs(is_least_web([day], Web(3, ((0, 1), (1, 2)))), True)
        self.assertIs(is_least_web([day], Web(3, ((0, 1), (0, 2), (1, 2)))), False)
        self.assertIs(is_least_web([day], Web(3, ((0, 1),))), False)
        self.assertIs(is_least_web([day], full(3)), False)

    def test_no_web_made_them(self):
        for web in ALL_WEBS[2] + [None]:
            self.assertIs(is_least_web([WRONG_FOR_TWO], web), False)

    def test_any_other_thing(self):
        two = Web(2, ((0, 1),))
        days = [Record((0,), ((0,), (0,)))]
        self.assertIs(is_least_web(days, two), True)
        for thing in [(2, ((0, 1),)), Web(3, ((0, 1),)), Web(1, ()), [two], (two,), days, days[0], ((0, 1),), Web]:
            self.assertIs(is_least_web(days, thing), False)
        for thing in odd_things():
            if not thing == two:
                self.assertIs(is_least_web(days, thing), False)


class FewestWires(unittest.TestCase):

    def test_against_all_webs(self):
        for days in SMALL:
            webs = [web for web in ALL_WEBS[len(days[0].diaries)] if made_them(web, days)]
            if webs:
                least = min(webs, key=lambda web: (len(web.wires), web.wires))
                self.assertEqual(fewest_wires(days), least)
            else:
                with self.assertRaises(errors.NoWeb):
                    fewest_wires(days)

    def test_four_machines(self):
        self.assertEqual(fewest_wires([Record((3,), ((0,),) * 4)]), Web(4, ((0, 1), (0, 2), (3, 0))))
        day = Record((0, 1, 2, 3), ((0, 1, 2, 3),) * 4)
        with self.assertRaises(errors.NoWeb):
            fewest_wires([day, WRONG_FOR_FOUR])
        days = [Record((k,), ((0,),) * 4) for k in range(4)]
        self.assertEqual(fewest_wires(days), Web(4, ((0, 1), (1, 2), (2, 3), (3, 0))))
        self.assertIs(is_least_web(days, fewest_wires(days)), True)
        every = [Record((y,), tuple([(0,) if x in (y, z) else () for x in range(4)])) for y, z in all_wires(4)]
        self.assertEqual(fewest_wires(every[:10]), Web(4, tuple(all_wires(4)[:10])))
        self.assertEqual(fewest_wires(every[2:]), Web(4, tuple(all_wires(4)[2:])))

    def test_all_wires_are_needed(self):
        days = [Record((0, 1), ((0, 1), (1, 0)))]
        self.assertEqual(fewest_wires(days), full(2))
        self.assertEqual(sure_wires(days), list(full(2).wires))

    def test_four_machines_then_all_webs_with_fewer_wires(self):
        for days in LARGE[3:]:
            told = fewest_wires(days)
            self.assertTrue(made_them(told, days))
            self.assertIs(is_least_web(days, told), True)
            self.assertLessEqual(len(told.wires), len(thinned(days, full(4)).wires))

    def test_too_many_machines(self):
        for machines in (5, 6, 7):
            with self.assertRaises(errors.TooMany) as caught:
                fewest_wires([Record((), ((),) * machines)])
            self.assertEqual(caught.exception.most, 4)
            wrong = Record((0, 0), ((0, 1), (1, 0)) + ((),) * (machines - 2))
            with self.assertRaises(errors.NoWeb):
                fewest_wires([wrong])


class MoreThanAConstructorLets(unittest.TestCase):

    def test_more_machines_and_puts(self):
        web = web_of_any_size(12, [(k, (k + 1) % 12) for k in range(12)])
        day = made_record(web, 35, 3)[1]
        self.assertIsNone(uncaused([day, day]))
        everything = web_of_any_size(12, all_wires(12))
        due = [wire for wire in all_wires(12) if not is_made(without_wire(everything, wire), day)]
        self.assertEqual(sure_wires([day]), due)
        self.assertGreater(len(due), 0)
        self.assertEqual(thinned([day], web), web)
        self.assertIs(is_least_web([day], web), True)
        self.assertIs(is_least_web([day], with_wire(web, (0, 5))), False)
        with self.assertRaises(errors.TooMany):
            fewest_wires([day])
        wrong = record_of_any_size((0,) * 35, (tuple(range(35)),) * 11 + (tuple(range(1, 35)),))
        self.assertEqual(uncaused([day, wrong]), (1, 1, 0, 11))


WRONG_FOR_FOUR = Record((0, 0), ((0, 1), (1, 0), (), ()))
