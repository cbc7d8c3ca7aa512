"""Standings: what can be come to by steps from the beginning, each one once."""

from growalong.errors import TooMany
from growalong.kinds import is_integer, is_tuple_of
from growalong.minds import after_row, new_mind, replaced

MOST_STANDINGS = 5000


class Play:
    """A program on a web on which nothing changes but by steps.

    A standing is a pair: for each machine (mind, what it told, memory, diary), and for each wire
    how many letters were taken from it. All that its begin has written was laid on a wire, so this
    and the diaries tell what is on it.
    """

    def __init__(self, web, program):
        self.codes = program.codes
        self.many_cells = len(program.owners)
        self.wires = web.wires
        # Puts are numbered by what they are named by, whichever way one comes to them.
        self.numbers = {}
        self.named = []

    def first(self):
        machine = (new_mind(), (), (0,) * self.many_cells, ())
        return ((machine,) * len(self.codes), (0,) * len(self.wires))

    def onward(self, standing):
        """The list of the pairs (step, standing behind it) for all steps that can be done."""
        machines, taken = standing
        found = []
        for x in range(len(machines)):
            if self.is_running(machines, x):
                found.append((("do", x), (replaced(machines, x, self.behind_row(x, machines[x])), taken)))
        for at, (y, x) in enumerate(self.wires):
            diary = machines[y][3]
            if taken[at] < len(diary):
                there = machines
                if diary[taken[at]] not in machines[x][3]:
                    there = replaced(machines, x, self.behind_writing(machines[x], diary[taken[at]]))
                found.append((("come", y, x), (there, replaced(taken, at, taken[at] + 1))))
        return found

    def is_running(self, machines, x):
        mind, _, _, diary = machines[x]
        at, fault, _, _ = mind
        if fault or at == len(self.codes[x]):
            return False
        if self.codes[x][at] != ("rest",):
            return True
        return all([has_all(other[3], diary) for other in machines])

    def behind_row(self, x, machine):
        """What a machine x is behind its next row."""
        mind, told, memory, diary = machine
        mind, effect = after_row(self.codes[x], mind, memory)
        if effect == ():
            return (mind, told, memory, diary)
        if effect[0] == "tell":
            return (mind, (*told, effect[1]), memory, diary)
        earlier = len([put for put in diary if self.named[put][0] == x])
        put = self.number_of((x, earlier, effect[1], effect[2]))
        return self.behind_writing((mind, told, memory, diary), put)

    def number_of(self, name):
        if name not in self.numbers:
            self.numbers[name] = len(self.named)
            self.named.append(name)
        return self.numbers[name]

    def behind_writing(self, machine, put):
        """What a machine is that writes a put."""
        mind, told, memory, diary = machine
        _, _, cell, worth = self.named[put]
        return (mind, told, replaced(memory, cell, worth), (*diary, put))

    def outcome_of(self, standing):
        """The tuple of what each machine told if all are at their end, otherwise None."""
        return outcome_of_codes(self.codes, standing[0])


class PlainPlay:
    """A program whose machines have one memory.

    A standing is a pair: for each machine (mind, what it told), and what the cells hold.
    """

    def __init__(self, program):
        self.codes = program.codes
        self.many_cells = len(program.owners)

    def first(self):
        return (((new_mind(), ()),) * len(self.codes), (0,) * self.many_cells)

    def onward(self, standing):
        """The list of the pairs (step, standing behind it) for all steps that can be done."""
        machines, memory = standing
        found = []
        for x, (mind, told) in enumerate(machines):
            if not mind[1] and mind[0] < len(self.codes[x]):
                mind, effect = after_row(self.codes[x], mind, memory)
                there = memory
                if effect != () and effect[0] == "tell":
                    told = (*told, effect[1])
                elif effect != ():
                    there = replaced(memory, effect[1], effect[2])
                found.append((("do", x), (replaced(machines, x, (mind, told)), there)))
        return found

    def outcome_of(self, standing):
        """The tuple of what each machine told if all are at their end, otherwise None."""
        return outcome_of_codes(self.codes, standing[0])


def has_all(diary, puts):
    """Whether some puts are all in a diary."""
    known = {put: True for put in diary}
    return all([put in known for put in puts])


def outcome_of_codes(codes, machines):
    """The tuple of what each machine told if all are at the end of their codes, otherwise None."""
    # A machine at a fault has a next row still.
    if all([machine[0][0] == len(code) for machine, code in zip(machines, codes)]):
        return tuple([machine[1] for machine in machines])
    return None


def standings_of(play):
    """A dict of all unlike standings: for each the pair of the one ahead of it and the step, None for the first."""
    found = {play.first(): None}
    left = list(found)
    at = 0
    while at < len(left):
        here = left[at]
        at += 1
        for step, there in play.onward(here):
            if there not in found:
                if len(found) == MOST_STANDINGS:
                    raise TooMany(MOST_STANDINGS)
                found[there] = (here, step)
                left.append(there)
    return found


def steps_to(found, standing):
    """The list of the steps by which a standing was found."""
    steps = []
    while found[standing] is not None:
        standing, step = found[standing]
        steps.append(step)
    return steps[::-1]


def outcomes_of(play):
    """The ascending list of all outcomes of a play."""
    told = [play.outcome_of(standing) for standing in standings_of(play)]
    return sorted({outcome for outcome in told if outcome is not None})


def is_outcome(machines, thing):
    """Whether a thing is what so many machines can have told: a tuple of tuples of integers."""
    if not is_tuple_of(machines, machines, thing) or not all([isinstance(told, tuple) for told in thing]):
        return False
    return all([is_integer(worth) for told in thing for worth in told])
