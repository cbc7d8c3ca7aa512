"""Runs: steps that put, and that let letters come."""

from growalong.errors import BadStep, NoWriters
from growalong.kinds import are_below, is_below, is_list_or_tuple, is_tuple_of, is_unlike_pair, is_worded
from growalong.records import MOST_PUTS, check_machines

MOST_STEPS = 4000


class Post:
    """What the machines of a web have in their diaries, and what is on its wires, while steps are done."""

    def __init__(self, web, writers):
        self.machines = web.machines
        self.wires = web.wires
        self.writers = writers
        self.written = [[] for _ in range(web.machines)]
        self.under_way = {wire: [] for wire in web.wires}

    def do(self, step):
        """Does a step, whatever it is; tells whether it could be done."""
        if is_worded("put", 2, step):
            return self.put(step[1])
        if is_worded("come", 3, step):
            return self.come((step[1], step[2]))
        return False

    def put(self, put):
        if not is_below(len(self.writers), put):
            return False
        writer = self.writers[put]
        # A put is in its writer's diary from just when it is put.
        if put in self.written[writer]:
            return False
        self.write(writer, put)
        return True

    def come(self, wire):
        # Flags as machines would be found among the wires, too.
        if not is_unlike_pair(self.machines, wire) or wire not in self.under_way:
            return False
        if not self.under_way[wire]:
            return False
        put = self.under_way[wire].pop(0)
        if put not in self.written[wire[1]]:
            self.write(wire[1], put)
        return True

    def write(self, machine, put):
        """Writes a put into a machine's diary, and sends it over all wires from there."""
        self.written[machine].append(put)
        for wire in self.wires:
            if wire[0] == machine:
                self.under_way[wire].append(put)

    def diaries_told(self):
        return tuple([tuple(diary) for diary in self.written])

    def letters_told(self):
        return {wire: tuple(self.under_way[wire]) for wire in self.wires}


def first_undone(post, steps):
    """Does the steps in order; the index of the first that can't be done, None if all are done."""
    for at, step in enumerate(steps):
        if not post.do(step):
            return at
    return None


def are_steps(thing):
    """Whether a thing is a list or tuple of as many things as a run may have."""
    return is_list_or_tuple(thing) and len(thing) <= MOST_STEPS


def check_writers(web, writers):
    if not is_tuple_of(0, MOST_PUTS, writers) or not are_below(web.machines, writers):
        raise NoWriters()


def led(web, writers, steps):
    """The pair of the diaries and the letters on all wires behind a run."""
    check_writers(web, writers)
    if not are_steps(steps):
        raise BadStep(-1)
    post = Post(web, writers)
    at = first_undone(post, steps)
    if at is not None:
        raise BadStep(at)
    return (post.diaries_told(), post.letters_told())


def is_run(web, record, thing):
    """Whether a thing is a run that leads to the diaries of a record."""
    check_machines(web.machines, record)
    if not are_steps(thing):
        return False
    post = Post(web, record.writers)
    return first_undone(post, thing) is None and post.diaries_told() == record.diaries
