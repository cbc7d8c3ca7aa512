"""Days: records that one web made, while it is not told which."""

from itertools import combinations

from growalong.errors import NoDays, NotMade, NoWeb, TooMany
from growalong.growing import holders_by_put, places_in, wires_by_put
from growalong.kinds import is_list_or_tuple
from growalong.records import Record, check_machines
from growalong.webs import Web, all_but, ways_from, web_of_all_wires, web_of_any_size

MOST_DAYS = 10
MOST_TRIED = 4


def check_days(thing):
    """Raises NoDays for what is no list or tuple of 1 to 10 records with equally many machines."""
    if not is_list_or_tuple(thing) or not 1 <= len(thing) <= MOST_DAYS:
        raise NoDays()
    if not all([isinstance(day, Record) for day in thing]):
        raise NoDays()
    if len({len(day.diaries) for day in thing}) > 1:
        raise NoDays()


def uncaused(days):
    """None if some web made the days, otherwise the least (day, p, q, x) that shows why none did.

    The writer of p has q ahead of p, and the machine x has p, but not q ahead of it.
    """
    check_days(days)
    for number, day in enumerate(days):
        places = [places_in(diary) for diary in day.diaries]
        for put, writer in enumerate(day.writers):
            found = uncaused_put(places, put, day.diaries[writer])
            if found is not None:
                return (number, put, *found)
    return None


def uncaused_put(places, put, diary):
    """The least (q, x) of this kind for one put, told where it is, and its writer's diary; None if there is none."""
    for early in sorted(diary[:diary.index(put)]):
        for machine, here in enumerate(places):
            if put in here and (early not in here or here[early] > here[put]):
                return (early, machine)
    return None


def check_caused(days):
    """Raises NoDays for what is none, then NoWeb if no web made the days."""
    if uncaused(days) is not None:
        raise NoWeb()


def all_wires(days):
    return web_of_all_wires(len(days[0].diaries))


def sure_wires(days):
    """The ascending list of the wires that each web which made the days has."""
    check_caused(days)
    web = all_wires(days)
    sure = {}
    for day in days:
        for put, wires in enumerate(wires_by_put(web, day)):
            for wire in needed(day.writers[put], wires):
                sure[wire] = True
    return sorted(sure)


def needed(writer, wires):
    """The wires without which a put can't have come to all, these being all that grow for it."""
    # Of all wires there are, the one right from the writer grows into each
    # machine that has the put: only if it is alone there it can't be missed.
    into = {}
    for y, x in wires:
        into.setdefault(x, []).append((y, x))
    return [into[x][0] for x in into if x != writer and len(into[x]) == 1]


def needs_of(web, days):
    """What the days need of a web, each once: triples (writer, how many have the put, wires that grow for it)."""
    needs = {}
    for day in days:
        wires = wires_by_put(web, day)
        for put, holders in enumerate(holders_by_put(day)):
            needs[(day.writers[put], len(holders), tuple(wires[put]))] = True
    return list(needs)


def are_met(needs, wires):
    """Whether these wires of the web make that each put can have come to all that have it."""
    there = {wire: True for wire in wires}
    for writer, many, grown in needs:
        if len(ways_from(writer, [wire for wire in grown if wire in there])) < many:
            return False
    return True


def thinned(days, web):
    """The web that is left if each wire, from the last on, is left out that is not needed then."""
    check_days(days)
    check_machines(web.machines, days[0])
    needs = needs_of(web, days)
    if not are_met(needs, web.wires):
        raise NotMade()
    left = list(web.wires)
    for wire in reversed(web.wires):
        fewer = all_but(wire, left)
        if are_met(needs, fewer):
            left = fewer
    return web_of_any_size(web.machines, left)


def is_least_web(days, thing):
    """Whether a thing is a web that made the days, and needs each of its wires for it."""
    check_days(days)
    if not isinstance(thing, Web) or thing.machines != len(days[0].diaries):
        return False
    needs = needs_of(thing, days)
    if not are_met(needs, thing.wires):
        return False
    return not any([are_met(needs, all_but(wire, thing.wires)) for wire in thing.wires])


def fewest_wires(days):
    """The web with the fewest wires that made the days, of several the one with the least wires."""
    check_caused(days)
    web = all_wires(days)
    if web.machines > MOST_TRIED:
        raise TooMany(MOST_TRIED)
    return web_of_any_size(web.machines, fewest_of(web.wires, needs_of(web, days)))


def fewest_of(wires, needs):
    """The least of the fewest wires that meet some needs, which all of them meet."""
    everything = list(wires)
    for many in range(len(everything)):
        for some in combinations(everything, many):
            if are_met(needs, some):
                return some
    return everything
