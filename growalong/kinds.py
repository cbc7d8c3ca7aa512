"""Of what kind any object is: these functions never fail, whatever they are asked of."""


def is_integer(thing):
    return isinstance(thing, int) and not isinstance(thing, bool)


def is_between(low, high, thing):
    """Whether a thing is an integer from low to high."""
    return is_integer(thing) and low <= thing <= high


def is_below(bound, thing):
    """Whether a thing is an integer from 0 on, less than bound."""
    return is_between(0, bound - 1, thing)


def is_list_or_tuple(thing):
    return isinstance(thing, (list, tuple))


def is_tuple_of(least, most, thing):
    """Whether a thing is a tuple of at least so many things, and at most so many."""
    return isinstance(thing, tuple) and least <= len(thing) <= most


def are_below(bound, things):
    """Whether each of some things is an integer from 0 on, less than bound."""
    return all([is_below(bound, thing) for thing in things])


def is_unlike_pair(bound, thing):
    """Whether a thing is a pair of unlike integers from 0 on, less than bound."""
    return is_tuple_of(2, 2, thing) and are_below(bound, thing) and thing[0] != thing[1]


def is_worded(word, length, thing):
    """Whether a thing is a tuple of this length that begins with this word."""
    return is_tuple_of(length, length, thing) and isinstance(thing[0], str) and thing[0] == word


def are_ascending(things):
    """Whether some things of kinds that have an order ascend, each of them once."""
    return all([one < other for one, other in zip(things, things[1:])])


def is_lot(bound, thing):
    """Whether a thing is an ascending tuple of integers from 0 on, less than bound."""
    return isinstance(thing, tuple) and are_below(bound, thing) and are_ascending(thing)
