"""Texts of webs, records and halls."""

from growalong.errors import BadText
from growalong.halls import Hall
from growalong.lines import check_end, line_of, lines_in, numbers_in
from growalong.records import Record
from growalong.webs import Web


def text_of(head, numbers, word, rows):
    """A line of a head and numbers, and for each row a line of a word and its numbers."""
    return line_of([head, *numbers]) + "".join([line_of([word, *row]) for row in rows])


def web_text(web):
    return text_of("machines", [web.machines], "wire", web.wires)


def record_text(record):
    return text_of("writers", record.writers, "diary", record.diaries)


def hall_text(hall):
    return text_of("places", hall.places, "link", hall.links)


def numbers_by_line(text, first, other):
    """For each line of a text the tuple of its numbers.

    The form of the first line, and that of each other one, is a pair: its word, and how many
    numbers stand behind that, None if there may be any.
    """
    lines = lines_in(text)
    found = []
    for at, line in enumerate(lines[:-1]):
        numbers = numbers_behind(first if at == 0 else other, line.split(" "))
        if numbers is None:
            raise BadText(at + 1)
        found.append(tuple(numbers))
    check_end(lines)
    return found


def numbers_behind(form, words):
    """The list of the numbers in a line of these words, None if it has not this form."""
    word, many = form
    numbers = numbers_in(words[1:])
    if words[0] != word or numbers is None or (many is not None and len(numbers) != many):
        return None
    return numbers


def read_web(text):
    """The web that a text tells."""
    found = numbers_by_line(text, ("machines", 1), ("wire", 2))
    return Web(found[0][0], tuple(found[1:]))


def read_record(text):
    """The record that a text tells."""
    found = numbers_by_line(text, ("writers", None), ("diary", None))
    return Record(found[0], tuple(found[1:]))


def read_hall(text):
    """The hall that a text tells."""
    found = numbers_by_line(text, ("places", None), ("link", 2))
    return Hall(tuple(found[1:]), found[0])
