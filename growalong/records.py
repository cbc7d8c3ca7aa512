"""Records: who put which puts, and in what order each machine saw them."""

from growalong.errors import BadRecord, NoMachine, NoPut, OtherMachines
from growalong.kinds import are_below, is_below, is_tuple_of
from growalong.webs import MOST_MACHINES

MOST_PUTS = 30


class Record:
    """A writer for each put, and a diary for each machine, the puts that it has seen."""

    def __init__(self, writers, diaries):
        check_record(writers, diaries)
        self.writers = writers
        self.diaries = diaries

    def __eq__(self, other):
        return isinstance(other, Record) and self.writers == other.writers and self.diaries == other.diaries


def check_record(writers, diaries):
    if not is_tuple_of(1, MOST_MACHINES, diaries):
        raise BadRecord("diaries", -1)
    if not is_tuple_of(0, MOST_PUTS, writers):
        raise BadRecord("writers", -1)
    for put, writer in enumerate(writers):
        if not is_below(len(diaries), writer):
            raise BadRecord("writers", put)
    for machine, diary in enumerate(diaries):
        if not is_diary(len(writers), diary):
            raise BadRecord("diaries", machine)
    for put, writer in enumerate(writers):
        if put not in diaries[writer]:
            raise BadRecord("put", put)


def is_diary(puts, thing):
    """Whether a thing is a tuple of unlike puts, there being so many."""
    return isinstance(thing, tuple) and are_below(puts, thing) and len(set(thing)) == len(thing)


def record_of_any_size(writers, diaries):
    """A record that is known to be right, of however many machines and puts."""
    # As with webs, only the constructor bounds how many there are.
    record = Record((), ((),))
    record.writers = writers
    record.diaries = diaries
    return record


def check_machines(machines, record):
    """Raises OtherMachines unless a record has so many machines."""
    if machines != len(record.diaries):
        raise OtherMachines()


def check_put(record, put):
    if not is_below(len(record.writers), put):
        raise NoPut()


def ahead(record, machine, put):
    """The ascending tuple of what a machine saw ahead of a put, None if it hasn't the put."""
    if not is_below(len(record.diaries), machine):
        raise NoMachine()
    check_put(record, put)
    diary = record.diaries[machine]
    if put not in diary:
        return None
    return tuple(sorted(diary[:diary.index(put)]))


def is_whole(record):
    """Whether each machine has all puts."""
    return all([len(diary) == len(record.writers) for diary in record.diaries])
