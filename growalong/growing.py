"""What grows: over which wires a put can have come, and so whether a web made a record."""

from growalong.errors import NotMade
from growalong.kinds import is_below, is_lot, is_tuple_of
from growalong.records import check_machines, check_put
from growalong.webs import check_machine, ways_from


def places_in(diary):
    """For each put of a diary how many stand ahead of it."""
    return {put: at for at, put in enumerate(diary)}


def grown_over(diary, places):
    """The puts for which a wire grows from a machine with this diary to one with these places."""
    found = []
    latest = -1
    for put in diary:
        # All that comes behind this put has it ahead, which the other machine never has.
        if put not in places:
            return found
        if places[put] > latest:
            latest = places[put]
            found.append(put)
    return found


def wires_by_put(web, record):
    """For each put the ascending list of the wires that grow for it."""
    places = [places_in(diary) for diary in record.diaries]
    wires = [[] for _ in record.writers]
    for y, x in web.wires:
        for put in grown_over(record.diaries[y], places[x]):
            wires[put].append((y, x))
    return wires


def holders_by_put(record):
    """For each put the ascending list of the machines that have it."""
    holders = [[] for _ in record.writers]
    for machine, diary in enumerate(record.diaries):
        for put in diary:
            holders[put].append(machine)
    return holders


def growing(web, record, put):
    """The ascending list of the wires that grow for a put."""
    check_machines(web.machines, record)
    check_put(record, put)
    return wires_by_put(web, record)[put]


def bar(web, record):
    """A put and machines that have it, but can't have got it; None if there are none."""
    check_machines(web.machines, record)
    wires = wires_by_put(web, record)
    for put, holders in enumerate(holders_by_put(record)):
        found = ways_from(record.writers[put], wires[put])
        if len(found) < len(holders):
            return (put, tuple([machine for machine in holders if machine not in found]))
    return None


def is_bar(web, record, thing):
    """Whether a thing is a put and machines that can't have got it."""
    check_machines(web.machines, record)
    if not is_tuple_of(2, 2, thing):
        return False
    put, lot = thing
    if not is_below(len(record.writers), put) or not is_lot(web.machines, lot) or lot == ():
        return False
    holders = holders_by_put(record)[put]
    if record.writers[put] in lot or any([machine not in holders for machine in lot]):
        return False
    return not any([x in lot and y not in lot for y, x in growing(web, record, put)])


def is_made(web, record):
    """Whether a web can have made a record."""
    return bar(web, record) is None


def trees(web, record):
    """For each put from where each machine can have got it; None if there are no such trees."""
    if not is_made(web, record):
        return None
    told = []
    for put, wires in enumerate(wires_by_put(web, record)):
        found = ways_from(record.writers[put], wires)
        told.append(tuple([found.get(machine) for machine in range(web.machines)]))
    return tuple(told)


def is_trees(web, record, thing):
    """Whether a thing tells for each put from where each machine can have got it."""
    check_machines(web.machines, record)
    puts = len(record.writers)
    if not is_tuple_of(puts, puts, thing):
        return False
    wires = wires_by_put(web, record)
    holders = holders_by_put(record)
    return all([is_tree(record, put, wires[put], holders[put], tree) for put, tree in enumerate(thing)])


def is_tree(record, put, wires, holders, thing):
    """Whether a thing tells from where each machine can have got a put, over these wires."""
    machines = len(record.diaries)
    if not is_tuple_of(machines, machines, thing) or thing[record.writers[put]] is not None:
        return False
    if not all([y is None or is_below(machines, y) for y in thing]):
        return False
    taken = [(y, x) for x, y in enumerate(thing) if y is not None]
    growing_ones = {wire: True for wire in wires}
    if not all([wire in growing_ones for wire in taken]):
        return False
    # Each machine has one wire into it at most, so who is found goes back to the writer.
    return len(ways_from(record.writers[put], taken)) == len(holders)


def run_of(web, record):
    """A run that leads to a record, as a list; None if there is none."""
    if not is_made(web, record):
        return None
    places = [places_in(diary) for diary in record.diaries]
    writings = []
    for put, wires in enumerate(wires_by_put(web, record)):
        found = ways_from(record.writers[put], wires)
        for far, machine in enumerate(found):
            writings.append(((places[machine][put], far), put, machine, found[machine]))
    return steps_for(places, sorted(writings))


def steps_for(places, writings):
    """The steps that do these writings, each of them (when, put, machine, from where), in this order."""
    # Along a wire that grows, no put has less ahead of it than it had before:
    # so by what is ahead of it, and then by how far off its writer is, each
    # writing stands behind those that it needs. The letters on the wire that
    # are ahead of the put are of puts that the machine has already.
    steps = []
    taken = {}
    for _, put, machine, giver in writings:
        if giver is None:
            steps.append(("put", put))
        else:
            wire = (giver, machine)
            letters = places[giver][put] + 1
            steps.extend([("come", giver, machine)] * (letters - taken.get(wire, 0)))
            taken[wire] = letters
    return steps


def check_made(web, record):
    if not is_made(web, record):
        raise NotMade()


def may_have_put(web, record, put):
    """The ascending tuple of the machines that can have been the writer of a put."""
    check_machines(web.machines, record)
    check_put(record, put)
    check_made(web, record)
    wires = growing(web, record, put)
    holders = holders_by_put(record)[put]
    return tuple([machine for machine in holders if len(ways_from(machine, wires)) == len(holders)])


def may_come(web, record, machine):
    """The ascending tuple of the puts that can come to be the next one in a machine's diary."""
    check_machines(web.machines, record)
    check_machine(web, machine)
    check_made(web, record)
    seen = places_in(record.diaries[machine])
    missing = [put for put in range(len(record.writers)) if put not in seen]
    return tuple([put for put in missing if can_come(web, record, machine, put)])


def can_come(web, record, machine, put):
    """Whether a put that a machine has not can be the next one in its diary."""
    # The put comes along machines that have nothing ahead of it but what the
    # machine has: who has not the put yet can get it from the one ahead on the
    # way, with all that this one has seen ahead of it, in the same order.
    seen = places_in(record.diaries[machine])
    fit = [all([known in seen for known in before(diary, put)]) for diary in record.diaries]
    back = [(x, y) for y, x in web.wires if fit[y]]
    return any([put in record.diaries[y] for y in ways_from(machine, back)])


def before(diary, put):
    """What stands ahead of a put in a diary: all that it has if it hasn't the put."""
    if put in diary:
        return diary[:diary.index(put)]
    return diary
