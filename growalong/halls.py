"""Halls: trees of nodes at which machines are, with hidden relays between them."""

from growalong.errors import BadHall, NotWhole
from growalong.growing import is_made, places_in
from growalong.kinds import are_ascending, is_below, is_tuple_of, is_unlike_pair
from growalong.pictures import mixed_picture, seen_picture, sides_by_pair, turned_picture
from growalong.records import check_machines, is_diary, is_whole, record_of_any_size
from growalong.webs import MOST_MACHINES, all_but, there_and_back, ways_from, web_of_any_size

MOST_LINKS = 11
LEAST_BRANCHES = 3


class Hall:
    """Some links between nodes that hang together as a tree, and for each machine the node at which it is."""

    def __init__(self, links, places):
        check_hall(links, places)
        self.links = links
        self.places = places

    def __eq__(self, other):
        return isinstance(other, Hall) and self.links == other.links and self.places == other.places


def check_hall(links, places):
    if not is_tuple_of(1, MOST_MACHINES, places):
        raise BadHall("places")
    if not are_links(links):
        raise BadHall("links")
    nodes = len(links) + 1
    for machine, place in enumerate(places):
        if not is_below(nodes, place):
            raise BadHall(machine)
    for node in range(nodes):
        if node not in places and len(neighbours_of(links, node)) < LEAST_BRANCHES:
            raise BadHall("relays")


def are_links(thing):
    """Whether a thing is a tuple of links by which all nodes hang together."""
    if not is_tuple_of(0, MOST_LINKS, thing):
        return False
    nodes = len(thing) + 1
    if not all([is_unlike_pair(nodes, link) and link[0] < link[1] for link in thing]):
        return False
    return are_ascending(thing) and len(nodes_beyond(thing, 0)) == nodes


def hall_of_any_size(links, places):
    """A hall that is known to be right, of however many machines."""
    # As with webs, only the constructor bounds how many there are.
    hall = Hall((), (0,))
    hall.links = links
    hall.places = places
    return hall


def neighbours_of(links, node):
    """The ascending list of the nodes to which a link leads from one."""
    return sorted([x for y, x in there_and_back(links) if y == node])


def nodes_beyond(links, node):
    """A dict of all nodes to which ways of links lead from one, itself among them."""
    return ways_from(node, there_and_back(links))


def cuts(hall):
    """The ascending list of the tuples of the machines that a link parts from the machine 0."""
    # No two links part the same machines: between them would be but relays of two links.
    return sorted([machines_beyond(hall, link) for link in hall.links])


def machines_beyond(hall, link):
    """The ascending tuple of the machines that a link parts from the machine 0."""
    here = nodes_beyond(all_but(link, hall.links), hall.places[0])
    return tuple([machine for machine, place in enumerate(hall.places) if place not in here])


def check_whole(record):
    if not is_whole(record):
        raise NotWhole()


def node_diaries(hall, record):
    """Diaries for all nodes by which a hall made a record, None if there are none."""
    check_machines(len(hall.places), record)
    check_whole(record)
    diaries = tuple([node_diary(hall, record, node) for node in range(len(hall.links) + 1)])
    if not are_right(hall, record, diaries):
        return None
    return diaries


def is_node_diaries(hall, record, thing):
    """Whether a thing is diaries for all nodes by which a hall made a record."""
    check_machines(len(hall.places), record)
    check_whole(record)
    nodes = len(hall.links) + 1
    if not is_tuple_of(nodes, nodes, thing):
        return False
    return all([is_diary(len(record.writers), diary) for diary in thing]) and are_right(hall, record, thing)


def are_right(hall, record, diaries):
    """Whether these diaries of all nodes are those of the machines, and have a run on the links."""
    for machine, place in enumerate(hall.places):
        if diaries[place] != record.diaries[machine]:
            return False
    writers = tuple([hall.places[writer] for writer in record.writers])
    web = web_of_any_size(len(diaries), there_and_back(hall.links))
    return is_made(web, record_of_any_size(writers, diaries))


def node_diary(hall, record, node):
    """The diary that a node must have, if there are any for all nodes."""
    if node in hall.places:
        return record.diaries[hall.places.index(node)]
    # Two puts stand in both orders on the two sides of one link at most, so
    # all branches of a relay but one have machines with its own order of them.
    branches = neighbours_of(hall.links, node)[:LEAST_BRANCHES]
    return middle_diary([record.diaries[machine_behind(hall, node, branch)] for branch in branches])


def machine_behind(hall, node, branch):
    """Some machine that a relay meets if it looks along the link to one of its branches."""
    there = nodes_beyond(all_but((min(node, branch), max(node, branch)), hall.links), branch)
    return [machine for machine, place in enumerate(hall.places) if place in there][0]


def middle_diary(diaries):
    """The diary with each two puts in the order of most of three whole ones, if there is such a diary."""
    places = [places_in(diary) for diary in diaries]
    ranked = sorted([(many_ahead(places, put), put) for put in diaries[0]])
    return tuple([put for _, put in ranked])


def many_ahead(places, put):
    """How many puts most of three machines have ahead of one."""
    return len([early for early in places[0] if sum([here[early] < here[put] for here in places]) >= 2])


def picture(record):
    """The least of the first sort of pictures of which there is one in a whole record, or None."""
    check_whole(record)
    found = seen_picture(record)
    if found is None:
        found = mixed_picture(record)
    if found is None:
        found = turned_picture(record)
    return found


def hall_of(record):
    """A hall with the fewest links that made a whole record, None if none did."""
    if picture(record) is not None:
        return None
    # Without a picture each two of these lots are apart, or one is within the
    # other: so each has a node of its own, for the machines in none below it.
    lots = [tuple(range(len(record.diaries))), *parted_lots(record)]
    links = [(last_with(lots[:node], lots[node][0]), node) for node in range(1, len(lots))]
    places = [last_with(lots, machine) for machine in range(len(record.diaries))]
    return hall_of_any_size(tuple(sorted(links)), tuple(places))


def parted_lots(record):
    """The lots of machines that have two puts in the other order than the machine 0, the largest first."""
    sides = sides_by_pair(record)
    found = {}
    for pair in sides:
        lot = tuple([machine for machine, flag in enumerate(sides[pair]) if flag != sides[pair][0]])
        found[lot] = True
    return [lot for _, lot in sorted([(-len(lot), lot) for lot in found if lot != ()])]


def last_with(lots, machine):
    """The index of the last of some lots in which a machine is."""
    return [at for at, lot in enumerate(lots) if machine in lot][-1]
