"""Programs: for each machine the rows that it does, and who puts which cells."""

from growalong.errors import BadProgram, NoOrder, NoPlaces, TooMany
from growalong.kinds import are_ascending, is_below, is_between, is_tuple_of
from growalong.webs import MOST_MACHINES, is_order

MOST_CELLS = 8
MOST_ROWS = 60
MOST_SET = 1000000
REGISTERS = 8

# For each word a letter for each thing behind it: r a register, n a number,
# o a cell of the own machine, c any cell, t the number of a row.
FORMS = {
    "set": "rn", "copy": "rr", "add": "rrr", "take": "rrr", "put": "or", "look": "rc", "tell": "r", "rest": "",
    "same": "rrt", "less": "rrt", "go": "t", "call": "t", "back": "",
}


class Program:
    """For each cell its owner, and for each machine its code, a tuple of rows."""

    def __init__(self, owners, codes):
        check_program(owners, codes)
        self.owners = owners
        self.codes = codes

    def __eq__(self, other):
        return isinstance(other, Program) and self.owners == other.owners and self.codes == other.codes


def check_program(owners, codes):
    if not is_tuple_of(1, MOST_MACHINES, codes):
        raise BadProgram("codes", -1)
    if not is_tuple_of(1, MOST_CELLS, owners):
        raise BadProgram("owners", -1)
    for cell, owner in enumerate(owners):
        if not is_below(len(codes), owner):
            raise BadProgram("owners", cell)
    for machine, code in enumerate(codes):
        if not is_tuple_of(0, MOST_ROWS, code):
            raise BadProgram("codes", machine)
    for machine, code in enumerate(codes):
        own = [owner == machine for owner in owners]
        for at, row in enumerate(code):
            if not is_row(own, len(code), row):
                raise BadProgram(machine, at)


def is_row(own, rows, thing):
    """Whether a thing is a row of a code of so many rows, told for each cell whether it is an own one."""
    if not isinstance(thing, tuple) or thing == () or not isinstance(thing[0], str) or thing[0] not in FORMS:
        return False
    form = FORMS[thing[0]]
    if len(thing) != len(form) + 1:
        return False
    return all([fits(letter, own, rows, part) for letter, part in zip(form, thing[1:])])


def fits(letter, own, rows, thing):
    """Whether a thing is such a part of a row as a letter of the forms says."""
    if letter == "r":
        return is_below(REGISTERS, thing)
    if letter == "n":
        return is_between(-MOST_SET, MOST_SET, thing)
    if letter == "t":
        return is_between(0, rows, thing)
    return is_below(len(own), thing) and (letter == "c" or own[thing])


def program_of_any_size(owners, codes):
    """A program that is known to be right, of however many machines, cells and rows."""
    # As with webs, only the constructor bounds how many there are.
    program = Program((0,), ((),))
    program.owners = owners
    program.codes = codes
    return program


def goes(row):
    """Whether a row has the number of a row, as its last part, to which it can go."""
    return FORMS[row[0]].endswith("t")


def put_rests(program, places):
    """The program with a rest put behind each of some rows, an ascending tuple of pairs (machine, row)."""
    if not are_places(program, places):
        raise NoPlaces()
    rested = with_rests(program, places)
    if any([len(code) > MOST_ROWS for code in rested.codes]):
        raise TooMany(MOST_ROWS)
    return rested


def are_places(program, thing):
    """Whether a thing is an ascending tuple of pairs of a machine and a row of its code."""
    if not isinstance(thing, tuple) or not all([is_place(program, place) for place in thing]):
        return False
    return are_ascending(thing)


def is_place(program, thing):
    if not is_tuple_of(2, 2, thing) or not is_below(len(program.codes), thing[0]):
        return False
    return is_below(len(program.codes[thing[0]]), thing[1])


def with_rests(program, places):
    """The program with rests behind these rows, however many rows it has then."""
    codes = []
    for machine, code in enumerate(program.codes):
        codes.append(rested_code(code, {row: True for owner, row in places if owner == machine}))
    return program_of_any_size(program.owners, tuple(codes))


def rested_code(code, rested):
    """A code with a rest behind each of some rows, told as the keys of a dict."""
    # Where each row stands then, and at last how many there are.
    now_at = [0]
    for row in range(len(code)):
        now_at.append(now_at[row] + (2 if row in rested else 1))
    rows = []
    for at, row in enumerate(code):
        rows.append((*row[:-1], now_at[row[-1]]) if goes(row) else row)
        if at in rested:
            rows.append(("rest",))
    return tuple(rows)


def waits_of(program):
    """The ascending tuple of the places, pairs (machine, row), of all rows put and look."""
    return tuple([(machine, at) for machine, code in enumerate(program.codes)
                  for at, row in enumerate(code) if row[0] == "put" or row[0] == "look"])


def renamed_program(program, order):
    """The program in which each machine k is called order[k]."""
    if not is_order(len(program.codes), order):
        raise NoOrder()
    owners = tuple([order[owner] for owner in program.owners])
    codes = tuple([code for _, code in sorted(zip(order, program.codes))])
    return program_of_any_size(owners, codes)
