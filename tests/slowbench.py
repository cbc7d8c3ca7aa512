"""What the document says of the bench, told once more plainly, without anything that is taken back."""

from copy import deepcopy

from growalong.programs import Program
from tests.made import numbers

LIMIT = 10 ** 12


class SlowBench:

    def __init__(self, web, program):
        self.codes = program.codes
        self.cells = len(program.owners)
        self.many = web.machines
        self.machines = [self.new_machine() for _ in range(web.machines)]
        self.told = [()] * web.machines
        self.letters = {wire: [] for wire in web.wires}
        self.puts = []
        self.lives = [[x, self.machines[x]["diary"]] for x in range(web.machines)]

    def new_machine(self):
        return {"row": 0, "registers": [0] * 8, "cells": [0] * self.cells, "remembered": [], "diary": [],
                "up": True, "fault": False}

    def state(self, x):
        machine = self.machines[x]
        if not machine["up"]:
            return "down"
        if machine["fault"]:
            return "fault"
        if machine["row"] == len(self.codes[x]):
            return "end"
        if self.codes[x][machine["row"]][0] == "rest":
            for put in machine["diary"]:
                if any([put not in other["diary"] for other in self.machines]):
                    return "rests"
        return "runs"

    def can(self):
        doing = [("do", x) for x in range(self.many) if self.state(x) == "runs"]
        return doing + sorted([("come", y, x) for y, x in self.letters if self.letters[(y, x)]])

    def deeds(self):
        """All deeds that can be done."""
        pairs = [(y, x) for y in range(self.many) for x in range(self.many) if y != x]
        found = [("cut" if pair in self.letters else "lay", pair) for pair in pairs]
        return found + [("fall" if self.machines[x]["up"] else "rise", x) for x in range(self.many)]

    def perform(self, step):
        getattr(self, "perform_" + step[0])(*step[1:])

    def write(self, x, put):
        self.machines[x]["diary"].append(put)
        _, cell, worth = self.puts[put]
        self.machines[x]["cells"][cell] = worth
        for y, to in self.letters:
            if y == x and self.machines[to]["up"]:
                self.letters[(y, to)].append(put)

    def perform_come(self, y, x):
        put = self.letters[(y, x)].pop(0)
        if put not in self.machines[x]["diary"]:
            self.write(x, put)

    def perform_do(self, x):
        machine = self.machines[x]
        row = self.codes[x][machine["row"]]
        registers, remembered = machine["registers"], machine["remembered"]
        to = machine["row"] + 1
        match row:
            case ("set", r, n):
                registers[r] = n
            case ("copy", r, s):
                registers[r] = registers[s]
            case ("add" | "take", r, s, t):
                worth = registers[s] + registers[t] * (1 if row[0] == "add" else -1)
                if abs(worth) > LIMIT:
                    machine["fault"] = True
                    return
                registers[r] = worth
            case ("put", c, r):
                self.puts.append((x, c, registers[r]))
                self.write(x, len(self.puts) - 1)
            case ("look", r, c):
                registers[r] = machine["cells"][c]
            case ("tell", r):
                self.told[x] += (registers[r],)
            case ("same", r, s, there):
                to = there if registers[r] == registers[s] else to
            case ("less", r, s, there):
                to = there if registers[r] < registers[s] else to
            case ("go", there):
                to = there
            case ("call", there):
                if len(remembered) >= 20:
                    machine["fault"] = True
                    return
                remembered.append(to)
                to = there
            case ("back",):
                if not remembered:
                    machine["fault"] = True
                    return
                to = remembered.pop()
        machine["row"] = to

    def perform_cut(self, wire):
        del self.letters[wire]

    def perform_lay(self, wire):
        y, x = wire
        both = self.machines[y]["up"] and self.machines[x]["up"]
        self.letters[wire] = list(self.machines[y]["diary"]) if both else []

    def perform_fall(self, x):
        self.machines[x] = self.new_machine()
        self.machines[x]["up"] = False
        for wire in self.letters:
            if wire[1] == x:
                self.letters[wire] = []

    def perform_rise(self, x):
        self.machines[x] = self.new_machine()
        self.lives.append([x, self.machines[x]["diary"]])
        for y, to in self.letters:
            if to == x and self.machines[y]["up"]:
                self.letters[(y, to)] = list(self.machines[y]["diary"])

    def outcome(self):
        if any([self.state(x) != "end" for x in range(self.many)]):
            return None
        return tuple(self.told)

    def seen(self):
        """All that can be asked of a bench, but for what it did."""
        return {
            "state": [self.state(x) for x in range(self.many)],
            "row": [machine["row"] for machine in self.machines],
            "registers": [tuple(machine["registers"]) for machine in self.machines],
            "remembered": [tuple(machine["remembered"]) for machine in self.machines],
            "told": list(self.told),
            "cells": [tuple(machine["cells"]) for machine in self.machines],
            "diary": [tuple(machine["diary"]) for machine in self.machines],
            "puts": list(self.puts),
            "letters": {wire: tuple(letters) for wire, letters in self.letters.items()},
            "lives": [(x, tuple(diary)) for x, diary in self.lives],
            "can": self.can(),
            "outcome": self.outcome(),
        }

    def standing(self):
        """What makes standings alike."""
        names = []
        for number, (writer, cell, worth) in enumerate(self.puts):
            names.append((writer, len([put for put in self.puts[:number] if put[0] == writer]), cell, worth))
        machines = tuple([(self.state(x), machine["row"], tuple(machine["registers"]), tuple(machine["remembered"]),
                           self.told[x], tuple([names[put] for put in machine["diary"]]))
                          for x, machine in enumerate(self.machines)])
        letters = tuple([tuple([names[put] for put in self.letters[wire]]) for wire in sorted(self.letters)])
        return (machines, letters)


def bench_seen(bench):
    """The same, as a bench tells it."""
    xs = range(bench.web().machines)
    asked = {name: [getattr(bench, name)(x) for x in xs]
             for name in ("state", "row", "registers", "remembered", "told", "cells", "diary")}
    return {**asked, "puts": bench.puts(), "letters": {wire: bench.letters(wire) for wire in bench.web().wires},
            "lives": bench.lives(), "can": bench.can(), "outcome": bench.outcome()}


def all_standings(web, program):
    """For all unlike standings a slow bench, by trying all steps."""
    first = SlowBench(web, program)
    found = {first.standing(): first}
    left = [first]
    while left:
        here = left.pop()
        for step in here.can():
            there = deepcopy(here)
            there.perform(step)
            if there.standing() not in found:
                found[there.standing()] = there
                left.append(there)
    return found


def counting(standings):
    """A program of one machine that has so many unlike standings, an odd number from 5 on."""
    # Each turn has two, and beside that there are both first rows, and the end.
    return Program((0,), ((("set", 1, (standings - 3) // 2), ("set", 2, 1), ("add", 0, 0, 2), ("less", 0, 1, 2)),))


FORMS = [("set", "rn"), ("copy", "rr"), ("add", "rrr"), ("take", "rrr"), ("put", "or"), ("put", "or"), ("look", "rc"),
         ("look", "rc"), ("tell", "r"), ("rest", ""), ("same", "rrt"), ("less", "rrt"), ("go", "t"), ("call", "t"),
         ("back", "")]
STRAIGHT = [("set", "rn"), ("put", "or"), ("put", "or"), ("look", "rc"), ("look", "rc"), ("tell", "r"), ("rest", ""),
            ("less", "rrt")]


def chance_program(machines, rows, seed, forms=FORMS, forward=False):
    """A program that looks like chance; forward: a row goes to rows behind it alone."""
    chance = numbers(seed)
    owners = tuple([next(chance) % machines for _ in range(1 + next(chance) % 3)])
    codes = []
    for machine in range(machines):
        many = next(chance) % (rows + 1)
        codes.append(tuple([chance_row(chance, owners, machine, at, many, forms, forward) for at in range(many)]))
    return Program(owners, tuple(codes))


def chance_row(chance, owners, machine, at, many, forms, forward):
    own = [cell for cell, owner in enumerate(owners) if owner == machine]
    word, form = forms[next(chance) % len(forms)]
    if "o" in form and not own:
        return ("look", 1, 0)
    parts = []
    for letter in form:
        there = at + 1 + next(chance) % (many - at) if forward else next(chance) % (many + 1)
        parts.append({"r": next(chance) % 3, "n": next(chance) % 5 - 2, "t": there,
                      "o": own[next(chance) % len(own)] if own else 0, "c": next(chance) % len(owners)}[letter])
    return (word, *parts)
