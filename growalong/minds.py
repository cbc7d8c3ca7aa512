"""Minds: what a machine keeps for itself, and what its rows do with that.

A mind is a tuple: the number of the next row, whether the machine is at a fault there, its
registers, and the rows that it remembers.
"""

from growalong.programs import REGISTERS, goes

MOST_SUM = 1000000000000
MOST_REMEMBERED = 20


def new_mind():
    return (0, False, (0,) * REGISTERS, ())


def replaced(things, at, thing):
    """A tuple of some things, with another one in one place."""
    return (*things[:at], thing, *things[at + 1:])


def after_row(code, mind, memory):
    """The mind behind the next row of a code, and what this does for others.

    This is ("tell", what is told), ("put", the cell, what is put), or () for neither.
    """
    at, _, registers, remembered = mind
    row = code[at]
    if goes(row) or row[0] == "back":
        return (after_going(row, mind), ())
    behind = (at + 1, False, registers, remembered)
    if row[0] == "rest":
        return (behind, ())
    if row[0] == "tell":
        return (behind, ("tell", registers[row[1]]))
    if row[0] == "put":
        return (behind, ("put", row[1], registers[row[2]]))
    worth = worth_of(row, registers, memory)
    if not -MOST_SUM <= worth <= MOST_SUM:
        return (at_fault(mind), ())
    return ((at + 1, False, replaced(registers, row[1], worth), remembered), ())


def at_fault(mind):
    at, _, registers, remembered = mind
    return (at, True, registers, remembered)


def worth_of(row, registers, memory):
    """What a row makes its register hold."""
    if row[0] == "set":
        return row[2]
    if row[0] == "look":
        return memory[row[2]]
    worth = registers[row[2]]
    if row[0] == "add":
        return worth + registers[row[3]]
    if row[0] == "take":
        return worth - registers[row[3]]
    return worth


def after_going(row, mind):
    """The mind behind a row that can go elsewhere."""
    at, _, registers, remembered = mind
    if row[0] == "back":
        if remembered == ():
            return at_fault(mind)
        return (remembered[-1], False, registers, remembered[:-1])
    if row[0] == "call":
        if len(remembered) == MOST_REMEMBERED:
            return at_fault(mind)
        return (row[1], False, registers, (*remembered, at + 1))
    to = row[-1] if is_going(row, registers) else at + 1
    return (to, False, registers, remembered)


def is_going(row, registers):
    """Whether a row same, less or go does not lead on to the row behind it."""
    if row[0] == "same":
        return registers[row[1]] == registers[row[2]]
    if row[0] == "less":
        return registers[row[1]] < registers[row[2]]
    return True
