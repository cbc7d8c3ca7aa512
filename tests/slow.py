"""What the document says, told once more in other words and slowly, for small webs and records."""

from itertools import combinations, permutations, product

from growalong.records import Record
from growalong.webs import Web


def all_wires(machines):
    return [(y, x) for y in range(machines) for x in range(machines) if y != x]


def all_webs(machines):
    wires = all_wires(machines)
    return [Web(machines, some) for many in range(len(wires) + 1) for some in combinations(wires, many)]


def all_orders(puts):
    """All tuples of some unlike puts."""
    return [order for many in range(puts + 1) for order in permutations(range(puts), many)]


def all_records(machines, writers):
    """All records with these writers."""
    for diaries in product(all_orders(len(writers)), repeat=machines):
        if all([put in diaries[writer] for put, writer in enumerate(writers)]):
            yield Record(writers, diaries)


def all_whole_records(machines, writers):
    for diaries in product(permutations(range(len(writers))), repeat=machines):
        yield Record(writers, diaries)


def all_diaries(web, writers):
    """All diaries to which steps lead behind which all was put, by trying all steps."""
    # The letters on a wire are what its machine has written, less those taken.
    start = (((),) * web.machines, (0,) * len(web.wires))
    found = {start}
    left = [start]
    while left:
        diaries, taken = left.pop()
        for machine, put, now in steps_from(web, writers, diaries, taken):
            written = diaries
            if put not in diaries[machine]:
                written = diaries[:machine] + (diaries[machine] + (put,),) + diaries[machine + 1:]
            if (written, now) not in found:
                found.add((written, now))
                left.append((written, now))
    return {diaries for diaries, _ in found
            if all([put in diaries[writer] for put, writer in enumerate(writers)])}


def steps_from(web, writers, diaries, taken):
    for put, writer in enumerate(writers):
        if put not in diaries[writer]:
            yield writer, put, taken
    for at, (y, x) in enumerate(web.wires):
        if taken[at] < len(diaries[y]):
            yield x, diaries[y][taken[at]], taken[:at] + (taken[at] + 1,) + taken[at + 1:]


def ahead_slowly(record, machine, put):
    diary = record.diaries[machine]
    return set(diary[:diary.index(put)])


def growing_slowly(web, record, put):
    return [(y, x) for y, x in sorted(web.wires)
            if put in record.diaries[y] and put in record.diaries[x]
            and ahead_slowly(record, y, put) <= ahead_slowly(record, x, put)]


def is_trees_slowly(web, record, thing):
    """Whether a tuple of tuples of machines and None is growing trees."""
    for put, writer in enumerate(record.writers):
        wires = growing_slowly(web, record, put)
        for machine in range(web.machines):
            if machine == writer or put not in record.diaries[machine]:
                if thing[put][machine] is not None:
                    return False
                continue
            here = machine
            for _ in range(web.machines):
                if here != writer:
                    if (thing[put][here], here) not in wires:
                        return False
                    here = thing[put][here]
            if here != writer:
                return False
    return True


def is_bar_slowly(web, record, put, lot):
    holders = [machine for machine, diary in enumerate(record.diaries) if put in diary]
    if not lot or not set(lot) <= set(holders) or record.writers[put] in lot:
        return False
    return not [wire for wire in growing_slowly(web, record, put) if wire[0] not in lot and wire[1] in lot]


def all_lots(machines):
    return sorted([lot for many in range(machines + 1) for lot in combinations(range(machines), many)])


def all_ways(web, writer, seer, used=()):
    """All ways from one machine to another without a machine twice, and without those that are used."""
    left = [] if writer in used else [(writer,)]
    while left:
        way = left.pop()
        if way[-1] == seer:
            yield way
        else:
            left.extend([way + (x,) for y, x in web.wires if y == way[-1] and x not in way and x not in used])
