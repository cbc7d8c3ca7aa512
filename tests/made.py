"""Records that were made: behind runs that look like chance, but are the same each time."""

from growalong.records import record_of_any_size
from growalong.runs import Post


def numbers(seed):
    """Numbers without end that look like chance."""
    state = seed * 7919 + 12345
    while True:
        state = (state * 1103515245 + 12345) % 2 ** 31
        yield state >> 8


def made_record(web, puts, seed, most=None):
    """The pair of the web, and a record behind a run: all letters come, or as many steps are done as most."""
    chance = numbers(seed)
    writers = tuple([next(chance) % web.machines for _ in range(puts)])
    return (web, record_by(web, writers, seed, most))


def record_by(web, writers, seed, most=None):
    """A record of these writers, likewise."""
    chance = numbers(seed)
    post = Post(web, writers)
    left = list(range(len(writers)))
    done = 0
    while left or most is None or done < most:
        wires = [wire for wire in web.wires if post.under_way[wire]]
        if not wires and not left:
            break
        if left and (not wires or next(chance) % 4 == 0):
            post.do(("put", left.pop(next(chance) % len(left))))
        else:
            post.do(("come", *wires[next(chance) % len(wires)]))
        done += 1
    return record_of_any_size(writers, post.diaries_told())
