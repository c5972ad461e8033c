"""Machines: which things are machines, which texts they accept, and the least ones."""

from textkinds.building import least, row_machine, states_along
from textkinds.shapes import SIGNS, rows_of

MOST_STATES = 40


def is_machine(thing):
    """Whether any thing is a machine of 1 to 40 states."""
    if not isinstance(thing, tuple) or len(thing) != 2:
        return False
    ends, rows = thing
    if not isinstance(ends, tuple) or not isinstance(rows, tuple):
        return False
    if not 1 <= len(ends) <= MOST_STATES or len(rows) != len(ends):
        return False
    return all([isinstance(end, bool) for end in ends]) and all([is_row(row, len(ends)) for row in rows])


def is_row(row, many):
    """Whether a thing is a tuple of four numbers of so many states."""
    return isinstance(row, tuple) and len(row) == len(SIGNS) and all([is_below(state, many) for state in row])


def is_below(thing, bound):
    """Whether a thing is a whole number from 0 on, below the bound."""
    return isinstance(thing, int) and not isinstance(thing, bool) and 0 <= thing < bound


def accepts(machine, text):
    """Whether the machine accepts the text."""
    ends, rows = machine
    return ends[states_along(rows, text)[-1]]


def least_of(machine):
    """The machine of the fewest states that accepts the same, its states numbered as they are first reached."""
    ends, rows = machine
    return least(ends, rows)


def is_least(machine):
    """Whether the machine is the least one that accepts the same."""
    return least_of(machine) == machine


def machine_for(shape):
    """The least machine that accepts just what fits the shape."""
    machines = []
    for row in rows_of(shape):
        machines.append(row_machine(row, machines))
    return machines[-1]
