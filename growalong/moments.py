"""Moments: what is so on a bench while steps and deeds are done, and taken back."""

from growalong.kinds import is_below, is_unlike_pair, is_worded
from growalong.minds import after_row, new_mind, replaced


class Life:
    """A machine from its beginning, or a rise, to its next fall."""

    def __init__(self, number, machine, cells):
        self.number = number
        self.machine = machine
        self.mind = new_mind()
        self.memory = (0,) * cells
        self.written = []
        self.known = {}

    def write(self, put, cell, worth):
        self.written.append(put)
        self.known[put] = True
        self.memory = replaced(self.memory, cell, worth)

    def mark(self):
        return (self, self.mind, self.memory, len(self.written))

    def back_to(self, mind, memory, many):
        for put in self.written[many:]:
            del self.known[put]
        del self.written[many:]
        self.mind = mind
        self.memory = memory


class Queue:
    """The letters on a wire: all that were ever laid on it, and how many of them were taken."""

    def __init__(self, laid):
        self.laid = laid
        self.taken = 0

    def waiting(self):
        return tuple(self.laid[self.taken:])

    def mark(self):
        return (self, len(self.laid), self.taken)

    def back_to(self, many, taken):
        del self.laid[many:]
        self.taken = taken


class Moment:
    """All lives, letters, puts and what was told, and how each step and deed that was done is taken back."""

    def __init__(self, web, program):
        self.codes = program.codes
        self.many_cells = len(program.owners)
        self.begun = []
        # For each machine the life that it leads, None while it is down.
        self.led = [self.begin(machine) for machine in range(web.machines)]
        self.spoken = [[] for _ in range(web.machines)]
        # For each put the life that put it, the cell, and what was put.
        self.done = []
        self.queues = {wire: Queue([]) for wire in web.wires}
        self.past = []

    def begin(self, machine):
        life = Life(len(self.begun), machine, self.many_cells)
        self.begun.append(life)
        return life

    def state_of(self, machine):
        life = self.led[machine]
        if life is None:
            return "down"
        at, fault, _, _ = life.mind
        if fault:
            return "fault"
        if at == len(self.codes[machine]):
            return "end"
        return "rests" if self.codes[machine][at] == ("rest",) and self.waits(life) else "runs"

    def waits(self, life):
        """Whether some machine has not all that is in the diary of a life."""
        for other in self.led:
            if other is None and life.written:
                return True
            for put in reversed(life.written):
                if put not in other.known:
                    return True
        return False

    def steps(self):
        """The list of the steps that can be done."""
        doing = [("do", x) for x in range(len(self.led)) if self.state_of(x) == "runs"]
        return doing + [("come", *wire) for wire in sorted(self.queues) if self.has_letter(wire)]

    def has_letter(self, wire):
        queue = self.queues[wire]
        return queue.taken < len(queue.laid)

    def has_wire(self, thing):
        """Whether a thing is a wire that is there."""
        return is_unlike_pair(len(self.led), thing) and thing in self.queues

    def lacks_wire(self, thing):
        """Whether a thing is a pair of unlike machines without a wire."""
        return is_unlike_pair(len(self.led), thing) and thing not in self.queues

    def allows(self, thing):
        """Whether a thing is a step that can be done."""
        if is_worded("do", 2, thing):
            return is_below(len(self.led), thing[1]) and self.state_of(thing[1]) == "runs"
        return is_worded("come", 3, thing) and self.has_wire(thing[1:]) and self.has_letter(thing[1:])

    def allows_deed(self, deed):
        """Whether a deed, told by its word and a wire or a machine, can be done."""
        word, about = deed
        if word == "cut":
            return self.has_wire(about)
        if word == "lay":
            return self.lacks_wire(about)
        return is_below(len(self.led), about) and (self.led[about] is None) == (word == "rise")

    def perform(self, step):
        """Does a step or a deed that can be done."""
        self.past.append((step, self.mark()))
        word = step[0]
        if word == "do":
            self.do(step[1])
        elif word == "come":
            self.come(step[1:])
        elif word == "cut":
            del self.queues[step[1]]
        elif word == "lay":
            self.renew(step[1])
        else:
            self.led[step[1]] = self.begin(step[1]) if word == "rise" else None
            for wire in self.wires_to(step[1]):
                self.renew(wire)

    def wires_to(self, machine):
        return [wire for wire in self.queues if wire[1] == machine]

    def do(self, machine):
        life = self.led[machine]
        life.mind, effect = after_row(self.codes[machine], life.mind, life.memory)
        if effect != () and effect[0] == "tell":
            self.spoken[machine].append(effect[1])
        elif effect != ():
            self.done.append((life.number, effect[1], effect[2]))
            self.write(life, len(self.done) - 1)

    def come(self, wire):
        queue = self.queues[wire]
        put = queue.laid[queue.taken]
        queue.taken += 1
        if put not in self.led[wire[1]].known:
            self.write(self.led[wire[1]], put)

    def write(self, life, put):
        """Writes a put into the diary of a life, and sends it over all wires from its machine."""
        _, cell, worth = self.done[put]
        life.write(put, cell, worth)
        leading = [wire for wire in self.queues if wire[0] == life.machine and self.led[wire[1]] is not None]
        for wire in leading:
            self.queues[wire].laid.append(put)

    def renew(self, wire):
        """Makes a wire a new one, with all that its begin has on it if both its machines are up."""
        giver, taker = self.led[wire[0]], self.led[wire[1]]
        self.queues[wire] = Queue([] if giver is None or taker is None else list(giver.written))

    def mark(self):
        """How much there is now, by which all can be put back to this."""
        lives = tuple([life.mark() for life in self.led if life is not None])
        spoken = tuple([len(told) for told in self.spoken])
        queues = tuple([(wire, self.queues[wire].mark()) for wire in self.queues])
        return (tuple(self.led), lives, spoken, queues, len(self.begun), len(self.done))

    def take_back(self):
        """Takes back the last step or deed that was done."""
        # Lists have only grown since the mark: what stands behind its end goes.
        _, (led, lives, spoken, queues, begun, done) = self.past.pop()
        self.led = list(led)
        for life, mind, memory, many in lives:
            life.back_to(mind, memory, many)
        for machine, many in enumerate(spoken):
            del self.spoken[machine][many:]
        self.queues = {wire: queue for wire, (queue, _, _) in queues}
        for _, (queue, many, taken) in queues:
            queue.back_to(many, taken)
        del self.begun[begun:]
        del self.done[done:]

    def outcome_now(self):
        """The tuple of what each machine told if all are at their end, otherwise None."""
        if any([self.state_of(machine) != "end" for machine in range(len(self.led))]):
            return None
        return tuple([tuple(told) for told in self.spoken])
