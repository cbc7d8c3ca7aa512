"""First sights: who can see whose put first, and what two or three puts can show."""

from itertools import permutations

from growalong.errors import NoMachine, NoSights, TooMany
from growalong.growing import is_made
from growalong.kinds import are_below, is_list_or_tuple, is_tuple_of
from growalong.records import record_of_any_size
from growalong.runs import Post, are_steps, check_writers, first_undone
from growalong.webs import check_machine

MOST_SIGHTS = 4
MOST_COUNTED_PUTS = 3
MOST_COUNTED_MACHINES = 4


def check_sights(web, thing):
    if not are_sights(web.machines, thing):
        raise NoSights()


def are_sights(machines, thing):
    """Whether a thing is a list or tuple of 1 to 4 pairs of unlike writers and unlike seers."""
    if not is_list_or_tuple(thing) or not 1 <= len(thing) <= MOST_SIGHTS:
        return False
    if not all([is_tuple_of(2, 2, pair) and are_below(machines, pair) for pair in thing]):
        return False
    many = len(thing)
    return len({writer for writer, _ in thing}) == many and len({seer for _, seer in thing}) == many


def first_sights(web, sights):
    """A run behind which each seer has the put of its writer first, None if there is none."""
    ways = ways_apart(web, sights)
    if ways is None:
        return None
    steps = [("put", put) for put in range(len(ways))]
    # Nobody on a way has got another put by then: the first letter is the right one.
    return steps + [("come", y, x) for way in ways for y, x in zip(way, way[1:])]


def is_first_sights(web, sights, thing):
    """Whether a thing is a run behind which each seer has the put of its writer first."""
    check_sights(web, sights)
    if not are_steps(thing):
        return False
    post = Post(web, tuple([writer for writer, _ in sights]))
    if first_undone(post, thing) is not None:
        return False
    return all([post.written[pair[1]][:1] == [put] for put, pair in enumerate(sights)])


def ways_apart(web, sights):
    """For each pair a way from its writer to its seer, no machine in two of them; None if there are none."""
    check_sights(web, sights)
    ends = ends_of(sights)
    if ends is None:
        return None
    left = [((sights[0][0],),)]
    while left:
        ways = left.pop()
        pair = len(ways) - 1
        if ways[pair][-1] != sights[pair][1]:
            left.extend([(*ways[:pair], (*ways[pair], machine)) for machine in next_machines(web, ends, ways)])
        elif len(ways) < len(sights):
            left.append((*ways, (sights[len(ways)][0],)))
        else:
            return ways
    return None


def ends_of(sights):
    """For each writer and seer the index of its pair; None if some machine is in two pairs."""
    ends = {}
    for at, pair in enumerate(sights):
        for machine in pair:
            if ends.setdefault(machine, at) != at:
                return None
    return ends


def next_machines(web, ends, ways):
    """The machines to which the last one of some ways can go on."""
    pair = len(ways) - 1
    way = ways[pair]
    # To what an earlier machine of the way has a wire, a shorter way leads,
    # which leaves the others more: such ways need not be tried.
    earlier = {machine: True for machine in way[:-1]}
    barred = {x: True for y, x in web.wires if y in earlier}
    for done in ways:
        for machine in done:
            barred[machine] = True
    onward = [x for y, x in web.wires if y == way[-1]]
    return [x for x in onward if x not in barred and ends.get(x, pair) == pair]


def is_ways_apart(web, sights, thing):
    """Whether a thing is a way for each pair, no machine being in two of them."""
    check_sights(web, sights)
    if not is_tuple_of(len(sights), len(sights), thing):
        return False
    if not all([is_way(web, pair, way) for pair, way in zip(sights, thing)]):
        return False
    machines = [machine for way in thing for machine in way]
    return len(set(machines)) == len(machines)


def is_way(web, pair, thing):
    """Whether a thing is a tuple of machines from a writer to a seer, each with a wire to the next one."""
    if not isinstance(thing, tuple) or thing == () or not are_below(web.machines, thing):
        return False
    if (thing[0], thing[-1]) != pair:
        return False
    return all([wire in web.wires for wire in zip(thing, thing[1:])])


def partings(web, one, other):
    """The ascending list of the lots that can have the put of one machine ahead of that of another one."""
    check_machine(web, one)
    check_machine(web, other)
    if one == other:
        raise NoMachine()
    lots = [(), tuple(range(web.machines))] + lots_from(web, one, other)
    return [lot for lot in sorted(lots) if is_parting(web, (one, other), lot)]


def lots_from(web, one, other):
    """The lots of machines, without the other one, to each of which ways within the lot lead from one."""
    # But for all and none no other lots can have a put first: into them, a
    # wire from outside does not grow for it.
    found = {(one,): True}
    left = [(one,)]
    while left:
        lot = left.pop()
        for y, x in web.wires:
            if y in lot and x not in lot and x != other:
                larger = tuple(sorted((*lot, x)))
                if larger not in found:
                    found[larger] = True
                    left.append(larger)
    return list(found)


def is_parting(web, writers, lot):
    """Whether two puts can come so that just this lot has the first one ahead."""
    diaries = [(0, 1) if machine in lot else (1, 0) for machine in range(web.machines)]
    return is_made(web, record_of_any_size(writers, tuple(diaries)))


def count_made(web, writers):
    """How many whole records with these writers have a run."""
    check_writers(web, writers)
    if len(writers) > MOST_COUNTED_PUTS:
        raise TooMany(MOST_COUNTED_PUTS)
    if web.machines > MOST_COUNTED_MACHINES:
        raise TooMany(MOST_COUNTED_MACHINES)
    orders = list(permutations(range(len(writers))))
    records = [()]
    for _ in range(web.machines):
        records = [(*diaries, order) for diaries in records for order in orders]
    return len([diaries for diaries in records if is_made(web, record_of_any_size(writers, diaries))])
