"""Promise 12.1: texts of webs, records and halls. Also 0.2 to 0.5, as they speak of them."""

import unittest

from growalong import errors
from growalong.benches import Bench
from growalong.halls import Hall, hall_of
from growalong.programs import Program
from growalong.records import Record
from growalong.texts import hall_text, read_hall, read_record, read_web, record_text, web_text
from growalong.webs import Web, full, hub, line, ring
from tests.made import made_record
from tests.odd import odd_things

READERS = (read_web, read_record, read_hall)
# A number that is none, in lines in which else all is right.
NO_NUMBERS = ("-1", "+1", "01", "00", "-0", "1234567890", "0000000001", "x", "1.", "1,2", "", "1_0", "0x1", "1\t", "\t1")


class Written(unittest.TestCase):

    def test_webs(self):
        self.assertEqual(web_text(full(2)), "machines 2\nwire 0 1\nwire 1 0\n")
        self.assertEqual(web_text(Web(1, ())), "machines 1\n")
        self.assertEqual(web_text(Web(7, ((6, 0),))), "machines 7\nwire 6 0\n")

    def test_records(self):
        self.assertEqual(record_text(Record((0, 1), ((0, 1), (1, 0)))), "writers 0 1\ndiary 0 1\ndiary 1 0\n")
        self.assertEqual(record_text(Record((), ((), ()))), "writers\ndiary\ndiary\n")
        self.assertEqual(record_text(Record((1,), ((), (0,)))), "writers 1\ndiary\ndiary 0\n")

    def test_halls(self):
        self.assertEqual(hall_text(Hall((), (0, 0))), "places 0 0\n")
        star = Hall(((0, 1), (0, 2), (0, 3)), (1, 2, 3))
        self.assertEqual(hall_text(star), "places 1 2 3\nlink 0 1\nlink 0 2\nlink 0 3\n")

    def test_more_than_a_constructor_lets(self):
        bench = Bench(hub(2), Program((0,), ((("put", 0, 0),), ())))
        for _ in range(10):
            bench.fall(1)
            bench.rise(1)
        bench.step(("do", 0))
        web, record = bench.lived()
        text = web_text(web)
        self.assertEqual(text.split("\n")[0], "machines 12")
        self.assertEqual(text.count("wire"), len(web.wires))
        self.assertEqual(record_text(record), "writers 0\ndiary 0\n" + "diary\n" * 11)
        for read, told, error in ((read_web, text, errors.BadWeb), (read_record, record_text(record), errors.BadRecord)):
            with self.assertRaises(error):
                read(told)

    def test_read_is_what_was_written(self):
        for web in (Web(1, ()), Web(4, ()), full(7), ring(5), hub(3), line(6), Web(3, ((2, 0),))):
            self.assertEqual(read_web(web_text(web)), web)
        for seed in range(30):
            _, record = made_record(ring(3 + seed % 4), seed % 12, seed, None if seed % 2 else seed)
            if all([put in record.diaries[x] for put, x in enumerate(record.writers)]):
                self.assertEqual(read_record(record_text(record)), record)
            if seed % 2:
                hall = hall_of(made_record(line(4), seed % 8, seed)[1])
                self.assertEqual(read_hall(hall_text(hall)), hall)
        thirty = tuple(range(30))
        for record in (Record((), ((),)), Record((), ((),) * 7), Record((6,) * 30, (thirty[::-1],) * 7)):
            self.assertEqual(read_record(record_text(record)), record)
        for hall in (Hall((), (0,) * 7), Hall(((0, 1),), (1, 0)), Hall(((0, 3), (1, 3), (2, 3)), (0, 1, 2))):
            self.assertEqual(read_hall(hall_text(hall)), hall)


class Read(unittest.TestCase):

    def bad(self, read, text, at):
        with self.assertRaises(errors.BadText) as caught:
            read(text)
        self.assertEqual(caught.exception.line, at)

    def test_right_ones(self):
        self.assertEqual(read_web("machines 3\nwire 0 1\nwire 2 0\n"), Web(3, ((0, 1), (2, 0))))
        self.assertEqual(read_record("writers 1\ndiary\ndiary 0\n"), Record((1,), ((), (0,))))
        self.assertEqual(read_hall("places 0 1\nlink 0 1\n"), Hall(((0, 1),), (0, 1)))

    def test_no_string(self):
        for read in READERS:
            for thing in odd_things() + [b"machines 1\n", ["machines 1\n"], 0]:
                if not isinstance(thing, str):
                    self.bad(read, thing, 0)

    def test_no_line(self):
        for read in READERS:
            self.bad(read, "", 1)
            self.bad(read, "a" * 40000, 1)
            self.bad(read, "\n", 1)
            self.bad(read, "\n" * 40000, 1)

    def test_what_stands_behind_the_last_line_feed(self):
        self.bad(read_web, "machines 2", 1)
        self.bad(read_web, "machines 2\nwire 0 1", 2)
        self.bad(read_web, "machines 2\nwire 0 1\n ", 3)
        self.bad(read_web, "machines 9\nx", 2)
        self.bad(read_web, "nothing\nmachines 2", 1)
        self.bad(read_record, "writers", 1)
        self.bad(read_record, "writers\ndiary\ndiary", 3)
        self.bad(read_hall, "places 0\nlink", 2)

    def test_numbers_that_are_none(self):
        for word in NO_NUMBERS:
            self.bad(read_web, f"machines {word}\n", 1)
            self.bad(read_web, f"machines 3\nwire 0 {word}\n", 2)
            self.bad(read_web, f"machines 3\nwire 0 1\nwire {word} 0\nwire {word} 0\n", 3)
            self.bad(read_record, f"writers {word}\n", 1)
            self.bad(read_record, f"writers 0 {word} 0\ndiary 0\n", 1)
            self.bad(read_record, f"writers 0\ndiary 0\ndiary 0 {word}\n", 3)
            self.bad(read_hall, f"places 0 {word}\n", 1)
            self.bad(read_hall, f"places 0 1\nlink 0 1\nlink {word} 1\n", 3)

    def test_how_many_numbers(self):
        for row in ("machines", "machines 1 2", "machines 1 2 3"):
            self.bad(read_web, row + "\n", 1)
        for row in ("wire", "wire 1", "wire 1 2 3"):
            self.bad(read_web, f"machines 3\n{row}\nwire 0 1\n", 2)
        for row in ("link", "link 1", "link 1 2 3"):
            self.bad(read_hall, f"places 0\n{row}\n", 2)

    def test_words_and_blanks(self):
        for row in ("machine 2", "Machines 2", " machines 2", "machines 2 ", "machines  2", "machines\t2", "2 machines",
                    "machines2", "machines 2\r", "machines 2|", "wire 0 1", "writers 2", "places 2"):
            self.bad(read_web, row + "\n", 1)
        for row in ("", " ", "wires 0 1", "wire  0 1", "wire 0  1", " wire 0 1", "wire 0 1 ", "wire 0,1", "machines 2",
                    "link 0 1", "diary 0 1", "wire", "wire (0, 1)"):
            self.bad(read_web, f"machines 2\n{row}\nwire 0 1\n", 2)
        for row in ("writers ", " writers", "writer 0", "writers  0", "writers 0 ", "diary 0", "diary", "Writers"):
            self.bad(read_record, row + "\ndiary\n", 1)
        for row in ("", "diary ", " diary", "diary  0", "diary 0 ", "diarys", "writers", "writers 0", "wire 0 1"):
            self.bad(read_record, f"writers\ndiary\n{row}\n", 3)
        for row in ("places ", "place 0", "link 0 1", "places  0", "places 0 "):
            self.bad(read_hall, row + "\n", 1)
        for row in ("", "places 0", "links 0 1", "link 0 1 ", "link  0 1"):
            self.bad(read_hall, f"places 0 1\n{row}\n", 2)

    def test_lines_left_out_twice_or_exchanged(self):
        self.bad(read_web, "wire 0 1\n", 1)
        self.bad(read_web, "wire 0 1\nmachines 2\n", 1)
        self.bad(read_web, "machines 2\nmachines 2\nwire 0 1\n", 2)
        self.bad(read_record, "diary\nwriters\n", 1)
        self.bad(read_record, "writers\nwriters\ndiary\n", 2)
        self.bad(read_hall, "link 0 1\nplaces 0 1\n", 1)
        self.bad(read_hall, "places 0 1\nplaces 0 1\nlink 0 1\n", 2)

    def test_bad_webs(self):
        for text, part in (("machines 0\n", "machines"), ("machines 8\n", "machines"), ("machines 999999999\n", "machines"),
                           ("machines 2\nwire 0 0\n", 0), ("machines 2\nwire 0 1\nwire 0 1\n", 1),
                           ("machines 3\nwire 1 0\nwire 0 1\n", 1), ("machines 2\nwire 0 1\nwire 1 2\n", 1),
                           ("machines 0\nwire 5 5\n", "machines")):
            with self.assertRaises(errors.BadWeb) as caught:
                read_web(text)
            self.assertEqual(caught.exception.part, part)

    def test_bad_records(self):
        for text, part, at in (("writers\n", "diaries", -1), ("writers 5\n", "diaries", -1),
                               ("writers\n" + "diary\n" * 8, "diaries", -1), ("writers 1\ndiary 0\n", "writers", 0),
                               ("writers" + " 0" * 31 + "\ndiary\n", "writers", -1), ("writers 0\ndiary\n", "put", 0),
                               ("writers 0\ndiary 0\ndiary 0 0\n", "diaries", 1), ("writers\ndiary 0\n", "diaries", 0)):
            with self.assertRaises(errors.BadRecord) as caught:
                read_record(text)
            self.assertEqual((caught.exception.part, caught.exception.at), (part, at))

    def test_bad_halls(self):
        for text, part in (("places\n", "places"), ("places" + " 0" * 8 + "\n", "places"), ("places 1\n", 0),
                           ("places 0\nlink 0 0\n", "links"), ("places 0 1\nlink 1 0\n", "links"),
                           ("places 0 2\nlink 0 1\nlink 1 2\n", "relays"), ("places 0 1 2\nlink 0 1\n", 2),
                           ("places 0 1\nlink 0 1\nlink 0 1\n", "links")):
            with self.assertRaises(errors.BadHall) as caught:
                read_hall(text)
            self.assertEqual(caught.exception.part, part)
