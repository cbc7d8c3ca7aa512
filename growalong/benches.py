"""The bench: a program at work on a web, step by step, while wires are cut and laid, machines fall and rise."""

from growalong.errors import (
    BadChoice, BadText, IsDown, IsUp, NoMachine, NoNumber, NoRow, NoStep, NothingDone, NoWire, OtherMachines,
)
from growalong.kinds import is_below, is_between
from growalong.lines import line_of, lines_in, numbers_in
from growalong.minds import new_mind
from growalong.moments import Moment
from growalong.records import record_of_any_size
from growalong.webs import web_of_any_size

MOST_GONE = 10000

# For each word of a journal how many numbers stand behind it.
NUMBERS_BEHIND = {"do": 1, "come": 2, "cut": 2, "lay": 2, "fall": 1, "rise": 1}


def check_codes(web, program):
    """Raises OtherMachines unless a program has a code for each machine of a web."""
    if web.machines != len(program.codes):
        raise OtherMachines()


class Bench:
    """A program at work on a web."""

    def __init__(self, web, program):
        check_codes(web, program)
        self.begun_with = web
        self.worked = program
        self.moment = Moment(web, program)
        self.halts = {}

    def can(self):
        """The list of the steps that can be done."""
        return self.moment.steps()

    def step(self, step):
        """Does a step."""
        if not self.moment.allows(step):
            raise NoStep()
        self.moment.perform(step)

    def steps(self):
        """The list of all steps and deeds that were done and are not taken back."""
        return [step for step, _ in self.moment.past]

    def back(self):
        """Takes back the last step or deed."""
        if not self.moment.past:
            raise NothingDone()
        self.moment.take_back()

    def go(self, chooser, most):
        """Does the steps that a chooser gives, fewer than most and to a break at most; tells how many."""
        if not is_between(0, MOST_GONE, most):
            raise NoNumber()
        many = 0
        steps = self.can()
        while many < most and steps:
            step = chooser(steps)
            # The chooser may have done something on the bench itself, so what
            # it was told does not surely hold any more.
            if not self.moment.allows(step):
                raise BadChoice(many)
            if step[0] == "do" and (step[1], self.row(step[1])) in self.halts:
                return many
            self.moment.perform(step)
            many += 1
            steps = self.can()
        return many

    def set_break(self, machine, row):
        """Lets go stop ahead of a row."""
        self.check_row(machine, row)
        self.halts[(machine, row)] = True

    def clear_break(self, machine, row):
        """Lets go no longer stop ahead of a row."""
        self.check_row(machine, row)
        if (machine, row) not in self.halts:
            raise NoRow()
        del self.halts[(machine, row)]

    def check_row(self, machine, row):
        self.check_machine(machine)
        if not is_below(len(self.worked.codes[machine]), row):
            raise NoRow()

    def check_machine(self, machine):
        if not is_below(self.begun_with.machines, machine):
            raise NoMachine()

    def breaks(self):
        """The ascending list of the pairs (machine, row) ahead of which go stops."""
        return sorted(self.halts)

    def state(self, machine):
        """What a machine does: "runs", "rests", "end", "fault" or "down"."""
        self.check_machine(machine)
        return self.moment.state_of(machine)

    def mind_of(self, machine):
        self.check_machine(machine)
        life = self.moment.led[machine]
        return new_mind() if life is None else life.mind

    def row(self, machine):
        """The number of the row that a machine does next, or could not do."""
        return self.mind_of(machine)[0]

    def registers(self, machine):
        return self.mind_of(machine)[2]

    def remembered(self, machine):
        return self.mind_of(machine)[3]

    def told(self, machine):
        self.check_machine(machine)
        return tuple(self.moment.spoken[machine])

    def cells(self, machine):
        """What a machine's own copies of all cells hold."""
        self.check_machine(machine)
        life = self.moment.led[machine]
        return (0,) * len(self.worked.owners) if life is None else life.memory

    def diary(self, machine):
        self.check_machine(machine)
        life = self.moment.led[machine]
        return () if life is None else tuple(life.written)

    def puts(self):
        """The list of the triples (writer, cell, what was put) of all puts."""
        return [(self.moment.begun[life].machine, cell, worth) for life, cell, worth in self.moment.done]

    def letters(self, wire):
        """The tuple of the puts on a wire."""
        if not self.moment.has_wire(wire):
            raise NoWire()
        return self.moment.queues[wire].waiting()

    def web(self):
        """The web of the wires that are there now."""
        return web_of_any_size(self.begun_with.machines, list(self.moment.queues))

    def program(self):
        return self.worked

    def outcome(self):
        """The tuple of what each machine told if all are at their end, otherwise None."""
        return self.moment.outcome_now()

    def copy(self):
        """Another bench at which all is the same, and which goes on apart."""
        other = Bench(self.begun_with, self.worked)
        for step in self.steps():
            other.moment.perform(step)
        other.halts = {place: True for place in self.halts}
        return other

    def trying(self, action):
        """Calls a function with the bench, puts all back to what it was, and returns what it returned."""
        kept = self.copy()
        moment, halts = kept.moment, kept.halts
        try:
            return action(self)
        finally:
            self.moment, self.halts = moment, halts

    def cut(self, wire):
        """Takes a wire away, with the letters on it."""
        if not self.moment.has_wire(wire):
            raise NoWire()
        self.moment.perform(("cut", wire))

    def lay(self, wire):
        """Lays a new wire."""
        if not self.moment.lacks_wire(wire):
            raise NoWire()
        self.moment.perform(("lay", wire))

    def fall(self, machine):
        """Lets a machine go down, with all that it has but what it told."""
        self.check_machine(machine)
        if not self.moment.allows_deed(("fall", machine)):
            raise IsDown()
        self.moment.perform(("fall", machine))

    def rise(self, machine):
        """Lets a machine that is down begin anew."""
        self.check_machine(machine)
        if not self.moment.allows_deed(("rise", machine)):
            raise IsUp()
        self.moment.perform(("rise", machine))

    def lives(self):
        """The list of the pairs (machine, diary) of all lives, in the order in which they began."""
        return [(life.machine, tuple(life.written)) for life in self.moment.begun]

    def lived(self):
        """The pair of a web and a record in which the lives are the machines."""
        begun = self.moment.begun
        ever = {wire: True for wire in self.begun_with.wires}
        for step in self.steps():
            if step[0] == "lay":
                ever[step[1]] = True
        wires = [(one.number, other.number) for one in begun for other in begun
                 if (one.machine, other.machine) in ever]
        writers = tuple([life for life, _, _ in self.moment.done])
        diaries = tuple([tuple(life.written) for life in begun])
        return (web_of_any_size(len(begun), wires), record_of_any_size(writers, diaries))

    def journal(self):
        """A text with a line for each step and deed that was done and is not taken back."""
        return "".join([journal_line(step) for step in self.steps()])


def journal_line(step):
    if step[0] == "cut" or step[0] == "lay":
        return line_of([step[0], *step[1]])
    return line_of(step)


def replayed(web, program, text):
    """The bench behind the lines of a journal."""
    bench = Bench(web, program)
    lines = lines_in(text)
    for at, line in enumerate(lines[:-1]):
        if not is_followed(bench.moment, line):
            raise BadText(at + 1)
    if lines[-1] != "":
        raise BadText(len(lines))
    return bench


def is_followed(moment, line):
    """Does what a line of a journal tells; whether it tells something that can be done."""
    step = told_step(line)
    if step is None:
        return False
    is_step = step[0] == "do" or step[0] == "come"
    if not (moment.allows(step) if is_step else moment.allows_deed(step)):
        return False
    moment.perform(step)
    return True


def told_step(line):
    """The step or deed that a line of a journal tells, None if it has not such a form."""
    word, *words = line.split(" ")
    numbers = numbers_in(words)
    if numbers is None or NUMBERS_BEHIND.get(word) != len(words):
        return None
    if word == "cut" or word == "lay":
        return (word, tuple(numbers))
    return (word, *numbers)
