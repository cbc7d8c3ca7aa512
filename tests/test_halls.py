"""Promises 5.1 and 5.2: trees with relays. Also 0.2 to 0.5, as they speak of them."""

import unittest
from itertools import combinations, permutations, product

from growalong import errors
from growalong.growing import is_made
from growalong.halls import Hall, cuts, hall_of, hall_of_any_size, is_node_diaries, node_diaries, picture
from growalong.records import Record, record_of_any_size
from growalong.webs import both_ways, full, web_of_any_size
from tests.made import made_record, numbers, record_by
from tests.odd import odd_things
from tests.slow import all_whole_records

TURNED = Record((0, 1, 2), ((0, 1, 2), (1, 2, 0), (2, 0, 1)))
STAR = Hall(((0, 1), (0, 2), (0, 3)), (1, 2, 3))
CATERPILLAR = Hall(((0, 1), (1, 2), (1, 5), (2, 3), (2, 6), (3, 4), (3, 7), (4, 8), (4, 9)), (0, 5, 6, 7, 8, 9, 2))
LONGEST = Hall(((0, 1), (1, 2), (1, 3), (3, 4), (3, 5), (5, 6), (5, 7), (7, 8), (7, 9), (9, 10), (9, 11)),
               (0, 2, 4, 6, 8, 10, 11))


def increasing_trees(nodes):
    """All trees in which each node but 0 has a link to one smaller node."""
    for parents in product(*[range(node) for node in range(1, nodes)]):
        yield tuple(sorted([(parent, node + 1) for node, parent in enumerate(parents)]))


def all_halls(machines):
    """All halls for so many machines, but for the numbers of the nodes."""
    halls = {}
    for nodes in range(1, max(2, 2 * machines - 1)):
        for links in increasing_trees(nodes):
            for places in product(range(nodes), repeat=machines):
                try:
                    hall = Hall(links, places)
                except errors.BadHall:
                    continue
                halls.setdefault(tuple(cuts(hall)), hall)
    return list(halls.values())


HALLS = {machines: all_halls(machines) for machines in (1, 2, 3, 4)}


def web_of(hall):
    wires = [wire for one, other in hall.links for wire in ((one, other), (other, one))]
    return web_of_any_size(len(hall.links) + 1, wires)


def is_right(hall, record, diaries):
    if [diaries[place] for place in hall.places] != list(record.diaries):
        return False
    writers = tuple([hall.places[writer] for writer in record.writers])
    return is_made(web_of(hall), record_of_any_size(writers, diaries))


def all_right(hall, record):
    """All diaries of the nodes by which a hall made a record, by trying each of them for the relays."""
    orders = [[record.diaries[hall.places.index(node)]] if node in hall.places else
              list(permutations(range(len(record.writers)))) for node in range(len(hall.links) + 1)]
    return [diaries for diaries in product(*orders) if is_right(hall, record, diaries)]


def order_of(record, machine, *puts):
    return tuple([put for put in record.diaries[machine] if put in puts])


def pictures_slowly(record):
    puts = range(len(record.writers))
    machines = range(len(record.diaries))

    def some(*order):
        return any([order_of(record, machine, *order) == order for machine in machines])

    seen = [("seen", p, q) for p, q in permutations(puts, 2)
            if order_of(record, record.writers[p], p, q) == (q, p) and some(p, q)]
    mixed = []
    for (p, q), (r, s) in combinations(list(combinations(puts, 2)), 2):
        ways = {(order_of(record, machine, p, q) == (p, q), order_of(record, machine, r, s) == (r, s))
                for machine in machines}
        if len(ways) == 4:
            mixed.append(("mixed", p, q, r, s))
    turned = [("turned", p, q, r) for p, q, r in permutations(puts, 3)
              if p < q and p < r and some(p, q, r) and some(q, r, p) and some(r, p, q)]
    return [seen, mixed, turned]


def picture_slowly(record):
    for sort in pictures_slowly(record):
        if sort:
            return min(sort)
    return None


def partings_slowly(record):
    found = set()
    for p, q in permutations(range(len(record.writers)), 2):
        here = order_of(record, 0, p, q)
        found.add(tuple([x for x in range(len(record.diaries)) if order_of(record, x, p, q) != here]))
    return found - {()}


def hall_record(hall, puts, seed):
    """A record that a hall made."""
    chance = numbers(seed)
    writers = tuple([next(chance) % len(hall.places) for _ in range(puts)])
    run = record_by(web_of(hall), tuple([hall.places[writer] for writer in writers]), seed)
    return Record(writers, tuple([run.diaries[place] for place in hall.places]))


SMALL = [record for machines, writers in
         ((1, (0, 0)), (2, (0, 1)), (2, (1, 1)), (2, (0, 1, 0)), (3, (0, 1)), (3, (0, 1, 2)), (3, (1, 1, 2)), (3, (0,)),
          (3, ()), (4, (0, 3)), (4, (1, 2)))
         for record in all_whole_records(machines, writers)]
FOUR = list(all_whole_records(4, (0, 1, 2)))[::2] + list(all_whole_records(4, (1, 2, 3)))[::3]
FIVE = list(all_whole_records(5, (2, 3, 4)))[::97]


class Halls(unittest.TestCase):

    def bad(self, links, places, part):
        with self.assertRaises(errors.BadHall) as caught:
            Hall(links, places)
        self.assertEqual(caught.exception.part, part)
        self.assertIs(type(caught.exception.part), type(part))

    def test_right_ones(self):
        for links, places in (
                ((), (0,)), ((), (0,) * 7), (((0, 1),), (0, 1)), (((0, 1),), (1, 0, 0, 1)),
                (((0, 1), (0, 2), (0, 3)), (1, 2, 3)), (((0, 1), (0, 2), (0, 3)), (3, 0, 1, 2)),
                (((0, 2), (1, 2)), (0, 1, 2)), (((0, 3), (1, 3), (2, 3)), (0, 1, 2)), (LONGEST.links, LONGEST.places),
                (((0, 1), (0, 4), (1, 2), (1, 3), (4, 5), (4, 6)), (2, 3, 5, 6, 0)),
                (tuple([(k, k + 1) for k in range(6)]), (6, 5, 4, 3, 2, 1, 0))):
            hall = Hall(links, places)
            self.assertEqual((hall.links, hall.places), (links, places))
            self.assertIs(type(hall.links), tuple)
            self.assertIs(type(hall.places), tuple)
        self.assertEqual((len(LONGEST.links), len(LONGEST.places)), (11, 7))

    def test_places_that_are_no_such_tuple(self):
        for thing in odd_things() + [(), (0,) * 8, [0], 0, "0", (None,) * 8, {0: 0}]:
            if not (isinstance(thing, tuple) and 1 <= len(thing) <= 7):
                for links in ((), None, ((0, 1),), ((0, 2),), [], ((1, 2), (0, 1))):
                    self.bad(links, thing, "places")

    def test_links_that_are_none(self):
        wrong = [[], [(0, 1)], ((0, 0),), ((1, 0),), ((0, 2),), ((-1, 0),), ((0, True),), ((False, 1),), ([0, 1],),
                 ((0, 1, 2),), ((0,),), ((0, 1), (0, 1)), ((0, 2), (0, 1)), ((0, 1), (0, 3)), ((0, 1), (2, 3)),
                 ((0, 1), (0, 2), (1, 2)), ((0, 1), (0, 2), (1, 2), (3, 4)), ((0, 1), (2, 3), (2, 4), (3, 4)),
                 ((1, 2), (0, 1)), ((0, 1), (2, 1)), (("0", "1"),), (None,), ((0, None),), ((0, (1,)),), 0, "",
                 {(0, 1): 0}, tuple([(0, k) for k in range(1, 13)]), tuple([(k, k + 1) for k in range(12)])]
        for thing in wrong + odd_things():
            if thing == ():
                continue
            for places in ((0, 1), (0,), (None,), (7, 0), (0,) * 7, (5, None)):
                self.bad(thing, places, "links")
            if not isinstance(thing, tuple):
                self.bad(((0, 1), thing), (0, 1), "links")

    def test_eleven_links_at_most(self):
        self.bad(tuple([(0, k) for k in range(1, 12)]), (0,), "relays")
        self.bad(tuple([(0, k) for k in range(1, 13)]), (0,), "links")

    def test_the_first_machine_whose_place_is_no_node(self):
        for thing in odd_things() + [2, -1, "0", (0,), [0], True, False, 10 ** 39]:
            self.bad(((0, 1),), (0, 1, thing, 5), 2)
            self.bad(((0, 1),), (thing, None), 0)
            self.bad((), (0,) * 6 + (thing,), 6)
        self.bad((), (1,), 0)
        self.bad(((0, 1), (0, 2)), (0, 0, 3), 2)
        self.bad(((0, 1), (0, 2), (0, 3)), (1, 1, 4), 2)

    def test_relays(self):
        for links, places in ((((0, 1),), (0,)), (((0, 1),), (1, 1)), (((0, 1), (1, 2)), (0, 2)),
                              (((0, 1), (0, 2), (0, 3)), (1, 2)), (((0, 1), (0, 2), (0, 3)), (0, 1, 2)),
                              (((0, 1), (0, 2), (0, 3), (3, 4)), (1, 2, 4)), (LONGEST.links, LONGEST.places[:6]),
                              (LONGEST.links, (1,) + LONGEST.places[1:])):
            self.bad(links, places, "relays")

    def test_equal_ones(self):
        self.assertTrue(STAR == Hall(((0, 1), (0, 2), (0, 3)), (1, 2, 3)))
        self.assertFalse(STAR != Hall(((0, 1), (0, 2), (0, 3)), (1, 2, 3)))
        self.assertFalse(STAR == Hall(((0, 1), (0, 2), (0, 3)), (2, 1, 3)))
        self.assertFalse(STAR == Hall(((0, 3), (1, 3), (2, 3)), (0, 1, 2)))
        self.assertFalse(STAR == Hall(((0, 1), (0, 2), (0, 3), (0, 4)), (1, 2, 3, 4)))
        self.assertTrue(Hall((), (0,)) != Hall((), (0, 0)))
        self.assertFalse(Hall(((0, 1), (0, 2)), (0, 1, 2)) == Hall(((0, 1), (1, 2)), (0, 1, 2)))
        self.assertFalse(Hall((), (0,)) != Hall((), (0,)))
        for thing in odd_things() + [(STAR.links, STAR.places), TURNED, full(3), None]:
            self.assertIs(STAR == thing, False)
            self.assertIs(STAR != thing, True)
            self.assertIs(thing == STAR, False)

    def test_cuts(self):
        self.assertEqual(cuts(STAR), [(1,), (1, 2), (2,)])
        self.assertEqual(cuts(Hall((), (0,))), [])
        self.assertEqual(cuts(Hall((), (0,) * 7)), [])
        self.assertEqual(cuts(Hall(((0, 1),), (0, 1))), [(1,)])
        self.assertEqual(cuts(Hall(((0, 1),), (1, 0, 0, 1))), [(1, 2)])
        self.assertEqual(cuts(Hall(((0, 1), (1, 2)), (1, 0, 2))), [(1,), (2,)])
        self.assertEqual(cuts(Hall(((0, 1), (1, 2)), (2, 1, 0))), [(1, 2), (2,)])
        self.assertEqual(cuts(LONGEST), [(1,), (1, 2, 3, 4, 5, 6), (2,), (2, 3, 4, 5, 6), (3,), (3, 4, 5, 6), (4,),
                                         (4, 5, 6), (5,), (5, 6), (6,)])

    def test_cuts_of_all_small_halls(self):
        self.assertEqual([len(HALLS[machines]) for machines in (1, 2, 3)], [1, 2, 8])
        for halls in HALLS.values():
            for hall in halls:
                told = cuts(hall)
                self.assertIs(type(told), list)
                self.assertEqual(told, sorted(set(told)))
                self.assertEqual(len(told), len(hall.links))
                self.assertEqual([lot for lot in told if lot == () or 0 in lot or list(lot) != sorted(set(lot))], [])

    def test_the_list_is_new(self):
        cuts(STAR).clear()
        self.assertEqual(len(cuts(STAR)), 3)


class NodeDiaries(unittest.TestCase):

    def test_against_all_diaries(self):
        many = 0
        for record in SMALL + FOUR[::20]:
            for hall in HALLS[len(record.diaries)]:
                right = all_right(hall, record)
                told = node_diaries(hall, record)
                if told is None:
                    self.assertEqual(right, [])
                else:
                    self.assertIs(type(told), tuple)
                    self.assertIn(told, right)
                    self.assertIs(is_node_diaries(hall, record, told), True)
                    many += 1
        self.assertGreater(many, 300)

    def test_judging_all_diaries(self):
        orders = list(permutations(range(3)))
        for record in SMALL[-900::83] + [Record((0, 1, 2), ((0, 1, 2),) * 3)]:
            for hall in HALLS[len(record.diaries)]:
                if len(hall.links) < 4 and len(record.writers) == 3:
                    right = all_right(hall, record)
                    for thing in product(orders, repeat=len(hall.links) + 1):
                        self.assertIs(is_node_diaries(hall, record, thing), thing in right)

    def test_halls_with_more_than_seven_nodes(self):
        for hall in (LONGEST, CATERPILLAR):
            self.assertGreater(len(hall.links), 7)
            for seed in range(12):
                record = hall_record(hall, 9, seed)
                told = node_diaries(hall, record)
                self.assertTrue(is_right(hall, record, told))
                self.assertIs(is_node_diaries(hall, record, told), True)
                relay = [node for node in range(len(told)) if node not in hall.places][-1]
                for at in range(8):
                    diary = told[relay]
                    diary = diary[:at] + (diary[at + 1], diary[at]) + diary[at + 2:]
                    thing = told[:relay] + (diary,) + told[relay + 1:]
                    self.assertIs(is_node_diaries(hall, record, thing), is_right(hall, record, thing))
                for at in range(0, 8, 3):
                    first = record.diaries[0]
                    first = first[:at] + (first[at + 1], first[at]) + first[at + 2:]
                    other = Record(record.writers, (first,) + record.diaries[1:])
                    self.judge(hall, other)

    def judge(self, hall, record):
        told = node_diaries(hall, record)
        due = picture_slowly(record) is None and partings_slowly(record) <= set(cuts(hall))
        self.assertIs(told is not None, due)
        if due:
            self.assertIs(is_node_diaries(hall, record, told), True)

    def test_thirty_puts(self):
        record = hall_record(LONGEST, 30, 5)
        self.assertTrue(is_right(LONGEST, record, node_diaries(LONGEST, record)))
        self.assertIsNone(picture(record))
        self.assertTrue(set(cuts(hall_of(record))) <= set(cuts(LONGEST)))

    def test_machines_at_one_node(self):
        hall = Hall((), (0, 0))
        self.assertEqual(node_diaries(hall, Record((0, 1), ((0, 1), (0, 1)))), ((0, 1),))
        self.assertIsNone(node_diaries(hall, Record((0, 1), ((0, 1), (1, 0)))))
        self.assertIs(is_node_diaries(hall, Record((0, 1), ((0, 1), (1, 0))), ((0, 1),)), False)
        self.assertIs(is_node_diaries(hall, Record((0, 1), ((1, 0), (1, 0))), ((1, 0),)), True)

    def test_no_puts(self):
        record = Record((), ((), (), ()))
        self.assertEqual(node_diaries(STAR, record), ((), (), (), ()))
        self.assertIs(is_node_diaries(STAR, record, ((), (), (), ())), True)
        self.assertIs(is_node_diaries(STAR, record, ((), (), ())), False)

    def test_other_things(self):
        record = Record((0, 1), ((0, 1),) * 3)
        self.assertIs(is_node_diaries(STAR, record, ((0, 1),) * 4), True)
        wrong = [((0, 1),) * 3, ((0, 1),) * 5, [(0, 1)] * 4, ((), (0, 1), (0, 1), (0, 1)),
                 ((0,), (0, 1), (0, 1), (0, 1)), ((1, 0), (0, 1), (0, 1), (0, 1)), ((0, 1), (1, 0), (0, 1), (0, 1)),
                 ([0, 1],) * 4,
                 ((0, 1), [0, 1], (0, 1), (0, 1)), ((False, True), (0, 1), (0, 1), (0, 1)),
                 ((0, 1), (False, True), (0, 1), (0, 1)), ((0, 1, 0), (0, 1), (0, 1), (0, 1)),
                 ((0, 1, 2), (0, 1), (0, 1), (0, 1)), ((0, 0), (0, 1), (0, 1), (0, 1)), 0, "diaries", record.diaries]
        for thing in wrong + odd_things():
            self.assertIs(is_node_diaries(STAR, record, thing), False)
            self.assertIs(is_node_diaries(STAR, record, (thing, (0, 1), (0, 1), (0, 1))), False)
            self.assertIs(is_node_diaries(STAR, record, ((0, 1), (0, 1), (0, 1), (0, thing))), False)

    def test_other_machines_then_not_whole(self):
        part = Record((0, 1), ((0, 1), (1,), (1, 0)))
        for thing in odd_things():
            with self.assertRaises(errors.NotWhole):
                is_node_diaries(STAR, part, thing)
            for hall in (Hall((), (0,)), Hall((), (0,) * 4)):
                with self.assertRaises(errors.OtherMachines):
                    is_node_diaries(hall, part, thing)
                with self.assertRaises(errors.OtherMachines):
                    is_node_diaries(hall, TURNED, thing)
        with self.assertRaises(errors.NotWhole):
            node_diaries(STAR, part)
        with self.assertRaises(errors.OtherMachines):
            node_diaries(Hall(((0, 1),), (0, 1)), part)
        with self.assertRaises(errors.OtherMachines):
            node_diaries(Hall(((0, 1),), (0, 1)), TURNED)


class Pictures(unittest.TestCase):

    def test_the_least_one_of_the_first_sort(self):
        sorts = set()
        for record in SMALL + FOUR + FIVE:
            told = picture(record)
            self.assertEqual(told, picture_slowly(record))
            if told is not None:
                self.assertIs(type(told), tuple)
                sorts.add(told[0])
        self.assertEqual(sorts, {"seen", "mixed", "turned"})

    def test_with_many_puts(self):
        sorts = set()
        for machines, puts, web in ((4, 9, full(4)), (5, 7, full(5)), (3, 10, full(3)), (7, 8, LONGEST), (3, 9, STAR)):
            for seed in range(6):
                if isinstance(web, Hall):
                    record = hall_record(web, puts, seed)
                else:
                    record = made_record(web, puts, seed)[1]
                self.assertEqual(picture(record), picture_slowly(record))
                sorts.add(picture(record) and picture(record)[0])
        self.assertIn("mixed", sorts)
        self.assertIn(None, sorts)

    def test_seen(self):
        self.assertEqual(picture(Record((0, 0), ((0, 1), (1, 0)))), ("seen", 1, 0))
        self.assertEqual(picture(Record((0, 0), ((1, 0), (0, 1)))), ("seen", 0, 1))
        self.assertEqual(picture(Record((0, 0, 0), ((2, 1, 0), (0, 1, 2)))), ("seen", 0, 1))
        self.assertEqual(picture(Record((0, 1), ((1, 0), (0, 1)))), ("seen", 0, 1))
        self.assertIsNone(picture(Record((0, 1), ((0, 1), (1, 0)))))

    def test_mixed(self):
        orders = ((0, 1, 2, 3), (0, 1, 3, 2), (1, 0, 2, 3), (1, 0, 3, 2))
        self.assertEqual(picture(Record((0, 2, 0, 1), orders)), ("mixed", 0, 1, 2, 3))
        self.assertEqual(picture(Record((1, 3, 2, 3), orders[::-1])), ("seen", 0, 1))
        self.assertIsNone(picture(Record((0, 2, 0, 1)[:2] + (0, 0), ((0, 1, 2, 3),) * 2 + ((1, 0, 2, 3),) * 2)))

    def test_turned(self):
        self.assertEqual(picture(TURNED), ("turned", 0, 1, 2))
        other_way = Record((0, 1, 2), ((0, 2, 1), (1, 0, 2), (2, 1, 0)))
        self.assertEqual(picture(other_way), ("turned", 0, 2, 1))
        record = Record((1, 0, 1, 2), ((1, 2, 3, 0), (2, 3, 0, 1), (3, 1, 0, 2))[:2] + ((3, 1, 2, 0),))
        self.assertEqual(picture(record), picture_slowly(record))

    def test_none(self):
        for machines in range(1, 8):
            self.assertIsNone(picture(Record((), ((),) * machines)))
            self.assertIsNone(picture(Record((0,) * 30, (tuple(range(30)),) * machines)))

    def test_not_whole(self):
        for diaries in (((0, 1), (0,)), ((0, 1), ()), ((0, 1), (1, 0), (1,))):
            for function in (picture, hall_of):
                with self.assertRaises(errors.NotWhole):
                    function(Record((0, 0), diaries))


class FourthFact(unittest.TestCase):

    def test_a_hall_with_the_fewest_links(self):
        for record in SMALL + FOUR:
            halls = [hall for hall in HALLS[len(record.diaries)] if node_diaries(hall, record) is not None]
            told = hall_of(record)
            self.assertIs(told is None, picture(record) is not None)
            self.assertIs(told is None, halls == [])
            if told is not None:
                self.assertEqual(told, Hall(told.links, told.places))
                self.assertIsNotNone(node_diaries(told, record))
                self.assertEqual(len(told.links), min([len(hall.links) for hall in halls]))

    def test_which_halls_made_it(self):
        for record in SMALL + FOUR[::4]:
            for hall in HALLS[len(record.diaries)]:
                due = picture(record) is None and partings_slowly(record) <= set(cuts(hall))
                self.assertIs(node_diaries(hall, record) is not None, due)

    def test_the_cuts_are_the_partings(self):
        for record in SMALL + FOUR + FIVE:
            told = hall_of(record)
            if told is not None:
                self.assertEqual(cuts(told), sorted(partings_slowly(record)))

    def test_larger_ones(self):
        for hall in (LONGEST, CATERPILLAR, STAR):
            for seed in range(8):
                record = hall_record(hall, 10, seed)
                told = hall_of(record)
                self.assertEqual(told, Hall(told.links, told.places))
                self.assertTrue(is_right(told, record, node_diaries(told, record)))
                self.assertEqual(cuts(told), sorted(partings_slowly(record)))
                self.assertTrue(set(cuts(told)) <= set(cuts(hall)))

    def test_a_line(self):
        record = Record((0, 1, 2, 3), ((0, 1, 2, 3), (1, 0, 2, 3), (2, 1, 0, 3), (3, 2, 1, 0)))
        self.assertEqual(picture(record), picture_slowly(record))
        same = Record((0, 1, 2), ((0, 1, 2),) * 3)
        self.assertEqual(hall_of(same), Hall((), (0, 0, 0)))
        self.assertEqual(cuts(hall_of(Record((0, 1), ((0, 1), (1, 0))))), [(1,)])

    def test_equal_calls_give_equal_answers(self):
        for record in SMALL[::5]:
            again = Record(record.writers, tuple(list(record.diaries)))
            self.assertEqual(hall_of(record), hall_of(again))
            self.assertEqual(picture(record), picture(again))


class MoreThanAConstructorLets(unittest.TestCase):

    def test_more_machines_and_puts(self):
        links = tuple(sorted([(k // 2, k + 1) for k in range(30)]))
        places = tuple(range(31))
        hall = hall_of_any_size(links, places)
        writers = tuple([k % 31 for k in range(0, 140, 4)])
        record = record_by(web_of(hall), writers, 4)
        self.assertGreater(len(writers), 30)
        self.assertIsNone(picture(record))
        told = hall_of(record)
        self.assertTrue(set(cuts(told)) <= set(cuts(hall)))
        self.assertTrue(is_right(told, record, node_diaries(told, record)))
        self.assertEqual(node_diaries(hall, record), record.diaries)
        self.assertIs(is_node_diaries(hall, record, record.diaries), True)
        self.assertIs(is_made(both_ways(2, [(0, 1)]), Record((0, 1), ((0, 1), (1, 0)))), True)

    def test_more_nodes_and_relays(self):
        links = tuple(sorted([(0, 1), (0, 2), (0, 3)] + [(k, 3 * k + step) for k in (1, 2, 3) for step in (1, 2, 3)]))
        hall = hall_of_any_size(links, tuple(range(4, 13)))
        writers = (4, 7, 10, 12, 5, 6, 8, 9, 11, 4, 12)
        run = record_by(web_of(hall), writers, 2)
        record = record_of_any_size(tuple([node - 4 for node in writers]), run.diaries[4:])
        self.assertEqual(node_diaries(hall, record), run.diaries)
        told = hall_of(record)
        self.assertTrue(is_right(told, record, node_diaries(told, record)))
