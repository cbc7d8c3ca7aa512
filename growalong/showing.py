"""Webs compared: what a program can show on one web, and not on another one."""

from growalong.errors import OtherMachines
from growalong.kinds import is_tuple_of
from growalong.outcomes import outcomes
from growalong.programs import Program, program_of_any_size
from growalong.standings import is_outcome
from growalong.webs import ways_from


def check_webs(web, other_web):
    if web.machines != other_web.machines:
        raise OtherMachines()


def within(web, other_web):
    """Whether each wire of a web is a wire of another one."""
    check_webs(web, other_web)
    return lacking(web, other_web) == []


def lacking(web, other_web):
    """The wires of a web that another one lacks."""
    there = {wire: True for wire in other_web.wires}
    return [wire for wire in web.wires if wire not in there]


def is_showing(web, other_web, thing):
    """Whether a thing is a pair of a program, and an outcome that it has on the one web alone."""
    check_webs(web, other_web)
    if not is_tuple_of(2, 2, thing) or not isinstance(thing[0], Program):
        return False
    program, outcome = thing
    if len(program.codes) != web.machines:
        return False
    told, other_told = outcomes(web, program), outcomes(other_web, program)
    return is_outcome(web.machines, outcome) and outcome in told and outcome not in other_told


def showing(web, other_web):
    """A pair of a program, and an outcome that it has on the one web alone; None if there is none."""
    if within(web, other_web):
        return None
    plans = [plan for wire in lacking(web, other_web) for plan in plans_for(web, other_web, wire)]
    _, writer, seer, guards = sorted([(plan_size(web, other_web, *plan), *plan) for plan in plans])[0]
    return (program_for(web, writer, seer, guards), ((),) * web.machines)


def plans_for(web, other_web, wire):
    """Some triples (writer, seer, guards) by which a program can show a wire that the other web lacks.

    Guards are the pairs (machine, source), ascending, of machines past one of which each way from
    the writer to the seer leads on the other web, and for each the one of them, perhaps itself,
    whose put it has ahead of the writer's.
    """
    # The seer has the writer's put ahead of that of each source. Had it come over a
    # guard, then behind the put that the guard has ahead of it: so it came over the wire.
    writer, seer = wire
    ranked = sorted([(-reach(web, machine), machine) for machine in range(web.machines) if machine not in wire])
    relays = [machine for _, machine in ranked]
    plans = []
    for last in [*relays, writer]:
        # Those that reach most go first, and each relay is once the one that stays if any can.
        order = [machine for machine in relays if machine != last] + [machine for machine in relays if machine == last]
        lot = thinned_lot(order, lambda some: seer not in ways_past(other_web, writer, some))
        plans.append((writer, seer, guards_in(web, wire, lot)))
    return plans


def guards_in(web, wire, lot):
    """The guards if these machines are to be it, with few sources."""
    sources = thinned_lot(lot, lambda some: all([source_of(web, wire, some, guard) is not None for guard in lot]))
    return tuple([(machine, source_of(web, wire, sources, machine)) for machine in sorted(lot)])


def source_of(web, wire, sources, machine):
    """The source whose put a machine can have before anything came to a wire; None if there is none."""
    if machine in sources:
        return machine
    for source in sources:
        if machine in ways_past(web, source, wire):
            return source
    return None


def thinned_lot(things, is_enough):
    """What is left of some things if each is left out, in this order, without which the rest is enough."""
    left = things
    for thing in things:
        fewer = [kept for kept in left if kept != thing]
        if is_enough(fewer):
            left = fewer
    return left


def ways_past(web, machine, barred):
    """The machines to which ways lead from one without passing any of some others."""
    return ways_from(machine, [wire for wire in web.wires if wire[0] not in barred and wire[1] not in barred])


def reach(web, machine):
    """How many wires a put of a machine comes to."""
    found = ways_from(machine, web.wires)
    return len([wire for wire in web.wires if wire[0] in found])


def plan_size(web, other_web, writer, seer, guards):
    """What is to be small so that a program has few standings: how many puts, then how far they go."""
    writers = [writer, *sources_in(guards)]
    reaches = [reach(web, machine) + reach(other_web, machine) for machine in writers]
    return (len(writers), sum(reaches), len(guards))


def sources_in(guards):
    return sorted({source for _, source in guards})


def program_for(web, writer, seer, guards):
    """The program of a plan: all come to their end just if all see what the plan says."""
    owners = (writer, *sources_in(guards))
    cell_of = {machine: cell for cell, machine in enumerate(owners)}
    putting = {machine: (("set", 0, 1), ("put", cell_of[machine], 0)) for machine in owners}
    codes = [()] * web.machines
    codes[writer] = putting[writer]
    for machine, source in guards:
        first = putting[machine] if machine == source else until_there((), cell_of[source])
        codes[machine] = while_not_there(first, 0)
    codes[seer] = until_there((), 0)
    for source in sources_in(guards):
        codes[seer] = while_not_there(codes[seer], cell_of[source])
    return program_of_any_size(owners, tuple(codes))


def until_there(code, cell):
    """A code, and behind it rows past which none comes that does not see what was put into a cell."""
    # Who fails goes round at one row for ever, so that there are few standings.
    return (*code, ("look", 0, cell), ("same", 0, 7, len(code) + 1))


def while_not_there(code, cell):
    """A code, and behind it rows past which none comes that sees what was put into a cell."""
    return (*code, ("look", 0, cell), ("less", 7, 0, len(code) + 1))
