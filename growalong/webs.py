"""Webs: machines, and the wires between them."""

from growalong.errors import BadWeb, NoMachine, NoNumber, NoOrder, NoPairs, NoWire
from growalong.kinds import are_below, is_below, is_between, is_list_or_tuple, is_unlike_pair

MOST_MACHINES = 7


class Web:
    """Some machines, numbered from 0, and an ascending tuple of wires, pairs (from, to)."""

    def __init__(self, machines, wires):
        if not is_between(1, MOST_MACHINES, machines):
            raise BadWeb("machines")
        if not isinstance(wires, tuple):
            raise BadWeb("wires")
        at = first_wrong_wire(machines, wires)
        if at is not None:
            raise BadWeb(at)
        self.machines = machines
        self.wires = wires

    def __eq__(self, other):
        return isinstance(other, Web) and self.machines == other.machines and self.wires == other.wires


def first_wrong_wire(machines, wires):
    """The index of the first item that is no wire, or does not ascend; None if there is none."""
    for at, wire in enumerate(wires):
        if not is_unlike_pair(machines, wire):
            return at
        if at > 0 and wire <= wires[at - 1]:
            return at
    return None


def web_of_any_size(machines, wires):
    """A web of wires in any order, each told once or oftener, known to be right."""
    # Only the constructor bounds how many machines there are: a web that is
    # made from a web must not fail for one that has more.
    web = Web(1, ())
    web.machines = machines
    web.wires = tuple(sorted(set(wires)))
    return web


def ways_from(machine, wires):
    """The machines to which ways of wires lead from one, the nearest first.

    Each of them comes with the one that is ahead of it on such a way, the one itself with None.
    """
    onward = {}
    for y, x in wires:
        onward.setdefault(y, []).append(x)
    found = {machine: None}
    queue = [machine]
    at = 0
    while at < len(queue):
        here = queue[at]
        at += 1
        for x in onward.get(here, []):
            if x not in found:
                found[x] = here
                queue.append(x)
    return found


def there_and_back(pairs):
    """The wires there and back of each pair."""
    return [wire for one, other in pairs for wire in ((one, other), (other, one))]


def all_but(wire, wires):
    """A list of some wires, or of other pairs, without this one."""
    return [kept for kept in wires if kept != wire]


def check_number(least, machines):
    if not is_between(least, MOST_MACHINES, machines):
        raise NoNumber()


def are_pairs(machines, thing):
    """Whether a thing is a list or tuple of pairs of unlike machines."""
    return is_list_or_tuple(thing) and all([is_unlike_pair(machines, pair) for pair in thing])


def both_ways(machines, pairs):
    """The web with a wire there and a wire back for each pair."""
    check_number(1, machines)
    if not are_pairs(machines, pairs):
        raise NoPairs()
    return web_of_any_size(machines, there_and_back(pairs))


def full(machines):
    """The web of all wires."""
    check_number(1, machines)
    return web_of_all_wires(machines)


def web_of_all_wires(machines):
    """The web of all wires of however many machines."""
    return web_of_any_size(machines, [(y, x) for y in range(machines) for x in range(machines) if y != x])


def hub(machines):
    """The web with wires both ways between the machine 0 and each other one."""
    check_number(1, machines)
    return both_ways(machines, [(0, other) for other in range(1, machines)])


def line(machines):
    """The web with wires both ways between each machine and the next one."""
    check_number(1, machines)
    return both_ways(machines, neighbours(machines))


def ring(machines):
    """The line, closed by wires both ways between the last machine and the first."""
    check_number(3, machines)
    return both_ways(machines, neighbours(machines) + [(machines - 1, 0)])


def neighbours(machines):
    return [(one, one + 1) for one in range(machines - 1)]


def renamed(web, order):
    """The web in which each machine k is called order[k]."""
    if not is_order(web.machines, order):
        raise NoOrder()
    return web_of_any_size(web.machines, [(order[y], order[x]) for y, x in web.wires])


def is_order(machines, thing):
    """Whether a thing is a tuple of all machines, each once."""
    if not isinstance(thing, tuple) or not are_below(machines, thing):
        return False
    return sorted(thing) == list(range(machines))


def with_wire(web, wire):
    """The web with one wire more."""
    if not is_unlike_pair(web.machines, wire) or wire in web.wires:
        raise NoWire()
    return web_of_any_size(web.machines, web.wires + (wire,))


def without_wire(web, wire):
    """The web with this wire left out."""
    if not is_unlike_pair(web.machines, wire) or wire not in web.wires:
        raise NoWire()
    return web_of_any_size(web.machines, all_but(wire, web.wires))


def check_machine(web, machine):
    if not is_below(web.machines, machine):
        raise NoMachine()


def reached(web, machine):
    """The ascending tuple of the machines to which ways of wires lead from one, itself among them."""
    check_machine(web, machine)
    return tuple(sorted(ways_from(machine, web.wires)))


def is_strong(web):
    """Whether each machine reaches each other one."""
    return all([len(reached(web, machine)) == web.machines for machine in range(web.machines)])
