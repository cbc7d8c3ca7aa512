"""Promise 6.1: first sights. Also 0.2 to 0.5, as they speak of them."""

import unittest
from itertools import combinations, permutations, product

from growalong import errors
from growalong.runs import led
from growalong.sights import count_made, first_sights, is_first_sights, is_ways_apart, partings, ways_apart
from growalong.webs import Web, full, hub, line, ring, web_of_any_size
from tests.odd import odd_things
from tests.slow import all_diaries, all_lots, all_ways, all_webs

HUB = hub(4)
THREE = all_webs(3)


def all_sights(machines, most):
    """All sights of at most so many pairs, as lists."""
    pairs = list(product(range(machines), repeat=2))
    return [list(some) for many in range(1, most + 1) for some in permutations(pairs, many)
            if len({writer for writer, _ in some}) == many and len({seer for _, seer in some}) == many]


def ways_slowly(web, sights):
    """All ways apart."""
    found = [()]
    for writer, seer in sights:
        more = list(all_ways(web, writer, seer))
        found = [(*ways, way) for ways in found for way in more if not {x for w in ways for x in w} & set(way)]
    return found


def are_ways_there(web, sights, used=()):
    """Whether there are ways apart."""
    if not sights:
        return True
    return any(are_ways_there(web, sights[1:], used + way) for way in all_ways(web, *sights[0], used))


def can_be_seen(web, sights):
    there = all_diaries(web, tuple([writer for writer, _ in sights]))
    return any([all([diaries[seer][:1] == (put,) for put, (_, seer) in enumerate(sights)]) for diaries in there])


def not_sights(machines):
    some = [(), [], [()], [(0,)], [(0, 1, 2)], [[0, 1]], ([0, 1],), [(0, machines)], [(machines, 0)], [(-1, 0)],
            [(0, True)], [(False, 1)], [("0", 1)], [(0, None)], [(0, (1,))], [(0, 1), (0, 2)], [(0, 1), (2, 1)],
            [(0, 1), (0, 1)], ((0, 1), (1, 2), (2, 0), (0, 0)), {(0, 1): 0}, {0: (0, 1)}, (0, 1), [0, 1], "01", 0,
            [(0, 1), None], [(0, 1), [1, 0]], [(k % machines, k % machines) for k in range(5)]]
    return some + odd_things()


class Sights(unittest.TestCase):

    def test_no_sights(self):
        for web in (full(3), line(3), Web(3, ())):
            for thing in not_sights(3):
                for function in (first_sights, ways_apart):
                    with self.assertRaises(errors.NoSights):
                        function(web, thing)
                    with self.assertRaises(errors.NoSights):
                        function(web, [(0, 1), thing])
                for judge in (is_first_sights, is_ways_apart):
                    with self.assertRaises(errors.NoSights):
                        judge(web, thing, [])
                    with self.assertRaises(errors.NoSights):
                        judge(web, thing, None)

    def test_one_to_four_pairs(self):
        pairs = [(k, (k + 1) % 7) for k in range(0, 7)]
        for many in range(1, 5):
            self.assertIsNotNone(ways_apart(full(7), [(k, k) for k in range(many)]))
            self.assertIs(ways_apart(full(7), pairs[:many]) is None, many > 1)
        for thing in (pairs[:5], pairs, [(k, k) for k in range(5)], ()):
            with self.assertRaises(errors.NoSights):
                ways_apart(full(7), thing)

    def test_lists_and_tuples(self):
        sights = [(0, 3), (1, 2)]
        for function in (first_sights, ways_apart):
            self.assertEqual(function(full(4), sights), function(full(4), tuple(sights)))
        self.assertEqual(sights, [(0, 3), (1, 2)])
        self.assertIs(is_ways_apart(full(4), sights, ((0, 3), (1, 2))), True)
        self.assertIs(is_ways_apart(full(4), tuple(sights), ((0, 3), (1, 2))), True)


class FifthFact(unittest.TestCase):

    def judge(self, web, sights, due):
        ways = ways_apart(web, sights)
        run = first_sights(web, sights)
        self.assertIs(ways is not None, due)
        self.assertIs(run is not None, due)
        if due:
            self.assertIs(type(ways), tuple)
            self.assertEqual([type(way) for way in ways], [tuple] * len(sights))
            for way, pair in zip(ways, sights):
                self.assertIn(way, all_ways(web, *pair))
            self.assertEqual(len({x for way in ways for x in way}), sum([len(way) for way in ways]))
            self.assertIs(is_ways_apart(web, sights, ways), True)
            self.assertIs(type(run), list)
            self.assertIs(is_first_sights(web, sights, run), True)
            diaries, _ = led(web, tuple([writer for writer, _ in sights]), run)
            self.assertEqual([diaries[seer][0] for _, seer in sights], list(range(len(sights))))
        return due

    def test_all_sights_of_small_webs(self):
        due = [self.judge(web, sights, can_be_seen(web, sights)) for web in all_webs(2) for sights in all_sights(2, 2)]
        due += [self.judge(web, sights, can_be_seen(web, sights)) for web in THREE for sights in all_sights(3, 2)]
        self.assertEqual(set(due), {True, False})
        for web in THREE[::7]:
            for sights in all_sights(3, 3):
                self.judge(web, sights, ways_slowly(web, sights) != [])
        for web in (HUB, ring(4), line(4), Web(4, ((0, 1), (1, 2), (2, 3), (3, 0)))):
            for sights in all_sights(4, 2):
                self.judge(web, sights, ways_slowly(web, sights) != [])
                if len(sights) == 1:
                    self.judge(web, sights, can_be_seen(web, sights))

    def test_larger_webs(self):
        webs = [full(5), hub(7), ring(7), line(7),
                Web(7, ((0, 2), (0, 3), (1, 2), (1, 3), (2, 4), (3, 4), (3, 5), (4, 6), (5, 4), (5, 6))),
                Web(7, tuple(sorted([(k, (k + s) % 7) for k in range(7) for s in (1, 3)])))]
        due = []
        for web in webs:
            pairs = list(permutations(range(web.machines), 2))
            for many in range(1, 5):
                for some in list(combinations(pairs, many))[::1 if many < 3 else 97]:
                    if len({y for y, _ in some}) == many and len({x for _, x in some}) == many:
                        due.append(self.judge(web, some, are_ways_there(web, some)))
        self.assertGreater(sum(due), 200)
        self.assertGreater(len(due) - sum(due), 200)

    def test_a_longer_way_where_a_shorter_one_is_in_the_way_of_another(self):
        web = Web(6, ((0, 1), (0, 4), (1, 2), (2, 3), (4, 2), (5, 1)))
        self.assertEqual(ways_apart(web, ((0, 3), (5, 1))), ((0, 4, 2, 3), (5, 1)))
        self.assertEqual(ways_apart(web, ((5, 1), (0, 3))), ((5, 1), (0, 4, 2, 3)))

    def test_a_machine_that_is_writer_and_seer(self):
        for web in (full(3), Web(3, ())):
            self.assertEqual(ways_apart(web, [(1, 1)]), ((1,),))
            self.assertEqual(ways_apart(web, [(1, 1), (0, 0), (2, 2)]), ((1,), (0,), (2,)))
            self.assertIs(is_first_sights(web, [(1, 1)], [("put", 0)]), True)
        for sights in ([(0, 1), (1, 0)], [(0, 1), (1, 2)], [(0, 1), (2, 0)], [(0, 1), (1, 2), (2, 0)]):
            self.assertIsNone(ways_apart(full(3), sights))
            self.assertIsNone(first_sights(full(3), sights))
        self.assertEqual(ways_apart(full(3), [(0, 1), (2, 2)]), ((0, 1), (2,)))
        self.assertIsNone(ways_apart(hub(3), [(1, 2), (0, 0)]))
        self.assertIsNone(ways_apart(hub(3), [(0, 0), (1, 2)]))

    def test_more_machines_than_a_constructor_lets(self):
        many = 400
        web = web_of_any_size(many, [(k, k + 2) for k in range(many - 2)])
        sights = [(0, many - 2), (1, many - 1)]
        self.assertEqual(ways_apart(web, sights), (tuple(range(0, many, 2)), tuple(range(1, many, 2))))
        self.assertIs(is_first_sights(web, sights, first_sights(web, sights)), True)
        everything = web_of_any_size(30, [(y, x) for y in range(30) for x in range(30) if y != x])
        self.assertEqual(ways_apart(everything, [(0, 29), (28, 1)]), ((0, 29), (28, 1)))


class Judging(unittest.TestCase):

    def test_ways_that_are_not_apart(self):
        web, sights = full(5), [(0, 1), (2, 3)]
        for thing in (((0, 1), (2, 3)), ((0, 4, 1), (2, 3)), ((0, 1), (2, 4, 3))):
            self.assertIs(is_ways_apart(web, sights, thing), True)
        wrong = [((0, 4, 1), (2, 4, 3)), ((0, 2, 1), (2, 3)), ((2, 3), (0, 1)), ((0, 1),), ((0, 1), (2, 3), (4,)), (),
                 [(0, 1), (2, 3)], ([0, 1], (2, 3)), ((0, 1), [2, 3]), ((0, 1), (2,)), ((0, 1), ()), ((1, 0), (2, 3)),
                 ((0, 1), (3, 2)), ((0, 0, 1), (2, 3)), ((0, 1, 0, 1), (2, 3)), ((0, 5, 1), (2, 3)),
                 ((0, -1, 1), (2, 3)), ((0, True), (2, 3)), ((False, 1), (2, 3)), ((0, True, 1), (2, 3)),
                 ((0, "4", 1), (2, 3)), ((0, (4,), 1), (2, 3)), ((0, [4], 1), (2, 3)), ((0, None), (2, 3)),
                 ((0, 4), (2, 3)), ((4, 1), (2, 3)), ((0, 1), 2), "0123", 0]
        for thing in wrong + odd_things():
            self.assertIs(is_ways_apart(web, sights, thing), False)
            self.assertIs(is_ways_apart(web, sights, ((0, 1), thing)), False)
            self.assertIs(is_ways_apart(web, sights, ((0, thing, 1), (2, 3))), False)
            self.assertIs(is_ways_apart(web, sights, (thing, (2, 3))) and thing != (0, 1), False)

    def test_ways_over_wires_that_are_not_there(self):
        web = Web(4, ((0, 1), (1, 2), (2, 3)))
        self.assertIs(is_ways_apart(web, [(0, 2)], ((0, 1, 2),)), True)
        self.assertIs(is_ways_apart(web, [(0, 2)], ((0, 2),)), False)
        self.assertIs(is_ways_apart(web, [(2, 0)], ((2, 1, 0),)), False)
        self.assertIs(is_ways_apart(web, [(0, 2)], ((0, 1, 3, 2),)), False)
        self.assertIs(is_ways_apart(web, [(0, 0)], ((0,),)), True)
        self.assertIs(is_ways_apart(web, [(0, 0)], ((0, 0),)), False)
        self.assertIs(is_ways_apart(full(2), [(0, 0)], ((0, 1, 0),)), False)

    def test_all_ways_of_small_webs(self):
        rows = [()] + [row for many in (1, 2, 3) for row in product(range(3), repeat=many)]
        for web in THREE[::5]:
            for sights in ([(0, 1)], [(2, 2)], [(0, 1), (2, 2)], [(1, 0), (2, 1)]):
                right = ways_slowly(web, sights)
                for thing in product(rows, repeat=len(sights)):
                    self.assertIs(is_ways_apart(web, sights, thing), thing in right)

    def test_runs(self):
        web, sights = line(3), [(0, 1), (2, 2)]
        run = [("put", 0), ("put", 1), ("come", 0, 1)]
        for thing in (run, tuple(run), [run[1], run[0], run[2]],
                      run + [("come", 1, 2), ("come", 2, 1), ("come", 1, 0)]):
            self.assertIs(is_first_sights(web, sights, thing), True)
        wrong = [[], run[:2], run[:1] + run[2:], [run[0], run[1], ("come", 2, 1)], run + run,
                 [run[0], run[1], ("come", 2, 1), ("come", 0, 1)], run + [("put", 2)], run + [("come", 0, 2)],
                 [("put", 0), ("come", 0, 1), ("come", 1, 2), ("put", 1)], run + [None], run + [["come", 1, 2]],
                 [("put", False), *run[1:]], run * 1400, None, "run", {0: run[0]}, 3]
        for thing in wrong + odd_things():
            self.assertIs(is_first_sights(web, sights, thing), False)
            self.assertIs(is_first_sights(web, sights, run + [thing]), False)
            self.assertIs(is_first_sights(web, sights, [thing, *run]), False)

    def test_which_put_is_whose(self):
        self.assertIs(is_first_sights(full(4), [(0, 1), (2, 3)], [("put", 0), ("put", 1), ("come", 0, 1),
                                                                 ("come", 2, 3)]), True)
        self.assertIs(is_first_sights(full(4), [(0, 1), (2, 3)], [("put", 0), ("put", 1), ("come", 0, 3),
                                                                 ("come", 2, 1)]), False)
        self.assertIs(is_first_sights(full(4), [(0, 3), (2, 1)], [("put", 0), ("put", 1), ("come", 0, 3),
                                                                 ("come", 2, 1)]), True)


class Partings(unittest.TestCase):

    def partings_slowly(self, web, one, other):
        there = all_diaries(web, (one, other))
        whole = [diaries for diaries in there if all([len(diary) == 2 for diary in diaries])]
        return sorted({tuple([x for x, diary in enumerate(diaries) if diary == (0, 1)]) for diaries in whole})

    def test_against_all_whole_records(self):
        webs = THREE + all_webs(2) + [HUB, ring(4), line(4), Web(4, ((0, 1), (1, 2), (2, 3), (3, 0)))]
        for web in webs:
            for one, other in permutations(range(web.machines), 2):
                told = partings(web, one, other)
                self.assertIs(type(told), list)
                self.assertEqual(told, self.partings_slowly(web, one, other))

    def test_seven_machines(self):
        lots = [lot for lot in all_lots(7) if 0 in lot and 6 not in lot]
        self.assertEqual(partings(full(7), 0, 6), sorted(lots + [(), tuple(range(7))]))
        self.assertEqual(partings(line(7), 0, 6), [tuple(range(k)) for k in range(8)])
        self.assertEqual(partings(line(7), 6, 0), sorted([tuple(range(k, 7)) for k in range(8)]))
        self.assertEqual(partings(Web(7, ()), 0, 1), [])

    def test_more_machines_than_a_constructor_lets(self):
        many = 25
        web = web_of_any_size(many, [wire for k in range(many - 1) for wire in ((k, k + 1), (k + 1, k))])
        self.assertEqual(partings(web, 0, many - 1), [tuple(range(k)) for k in range(many + 1)])

    def test_the_list_is_new(self):
        partings(full(2), 0, 1).clear()
        self.assertEqual(partings(full(2), 0, 1), [(), (0,), (0, 1)])

    def test_no_machine(self):
        for thing in odd_things() + [4, -1, "0", (0,), [0], True]:
            for one, other in ((thing, 0), (0, thing), (thing, thing)):
                with self.assertRaises(errors.NoMachine):
                    partings(HUB, one, other)
        for machine in range(4):
            with self.assertRaises(errors.NoMachine):
                partings(HUB, machine, machine)
        with self.assertRaises(errors.NoMachine):
            partings(Web(1, ()), 0, 0)


class CountMade(unittest.TestCase):

    def count_slowly(self, web, writers):
        return len([diaries for diaries in all_diaries(web, writers)
                    if all([len(diary) == len(writers) for diary in diaries])])

    def test_against_all_whole_records(self):
        for web in THREE:
            for writers in ((), (1,), (0, 0), (0, 1), (2, 1)):
                self.assertEqual(count_made(web, writers), self.count_slowly(web, writers))
        for web in all_webs(2) + THREE[-3:] + [line(3), Web(3, ((0, 1), (1, 2), (2, 0)))]:
            for writers in ((0, 0, 1), (0, 1, 0), (1, 0, 1), (1, 1, 1)):
                self.assertEqual(count_made(web, writers), self.count_slowly(web, writers))
        for web in (HUB, line(4)):
            for writers in ((0,), (0, 3), (1, 2, 3)):
                self.assertEqual(count_made(web, writers), self.count_slowly(web, writers))

    def test_some(self):
        self.assertEqual(count_made(full(2), (0, 1)), 3)
        self.assertEqual(count_made(full(4), ()), 1)
        self.assertEqual(count_made(Web(1, ()), (0, 0, 0)), 6)
        self.assertEqual(count_made(Web(2, ()), (0,)), 0)
        self.assertEqual(count_made(Web(2, ()), ()), 1)
        self.assertEqual(count_made(line(2), (0, 0, 0)), 6)
        self.assertIs(type(count_made(full(4), (0, 1, 2))), int)

    def test_no_writers(self):
        wrong = [[], [0], (4,), (-1,), (0, True), ("0",), (None,), ((0,),), (0,) * 31, 0, "0", {0: 0}, (0, 1, 2, 4)]
        for thing in odd_things() + wrong:
            with self.assertRaises(errors.NoWriters):
                count_made(HUB, thing)
            with self.assertRaises(errors.NoWriters):
                count_made(full(5), thing if thing not in ((4,), (0, 1, 2, 4)) else (5,))

    def too_many(self, web, writers, most):
        with self.assertRaises(errors.TooMany) as caught:
            count_made(web, writers)
        self.assertEqual(caught.exception.most, most)

    def test_too_many(self):
        for many in (4, 5, 30):
            self.too_many(HUB, (0,) * many, 3)
            self.too_many(full(7), (6,) * many, 3)
        for machines in (5, 6, 7):
            self.too_many(full(machines), (0, 1, 2), 4)
            self.too_many(full(machines), (), 4)
