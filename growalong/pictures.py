"""Pictures: what in a whole record shows that no tree made it."""

from itertools import combinations

from growalong.growing import places_in


def seen_picture(record):
    """The least of the sort ("seen", p, q), None if there is none."""
    places = [places_in(diary) for diary in record.diaries]
    for p, writer in enumerate(record.writers):
        for q in sorted(record.diaries[writer][:places[writer][p]]):
            if any([here[p] < here[q] for here in places]):
                return ("seen", p, q)
    return None


def sides_by_pair(record):
    """For all puts p below q, ascending, which machines have p ahead of q, as a flag for each."""
    places = [places_in(diary) for diary in record.diaries]
    puts = len(record.writers)
    return {(p, q): tuple([here[p] < here[q] for here in places]) for p, q in combinations(range(puts), 2)}


def mixed_picture(record):
    """The least of the sort ("mixed", p, q, r, s), None if there is none."""
    sides = sides_by_pair(record)
    # Whether two pairs mix, their sides alone tell: so both pairs of the
    # least picture are the first ones that have their sides.
    firsts = {}
    for pair in sides:
        firsts.setdefault(sides[pair], pair)
    for one, other in combinations(firsts, 2):
        if len({(flag, beside) for flag, beside in zip(one, other)}) == 4:
            return ("mixed", *firsts[one], *firsts[other])
    return None


def turned_picture(record):
    """The least of the sort ("turned", p, q, r), None if there is none."""
    sides = sides_by_pair(record)
    places = [places_in(diary) for diary in record.diaries]
    # If three puts are turned, each two of them stand in both orders.
    parted = {pair: True for pair in sides if len(set(sides[pair])) == 2}
    for p, q in parted:
        for r in range(p + 1, len(record.writers)):
            if (p, r) in parted and (min(q, r), max(q, r)) in parted and are_turned(places, p, q, r):
                return ("turned", p, q, r)
    return None


def are_turned(places, p, q, r):
    """Whether some machine has three puts in this order, and some in each order that turns it round."""
    orders = ((p, q, r), (q, r, p), (r, p, q))
    return all([any([here[a] < here[b] < here[c] for here in places]) for a, b, c in orders])
