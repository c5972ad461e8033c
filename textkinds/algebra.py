"""Machines put together, and turned about."""

from textkinds.building import any_number, comers, one_then_other, side_by_side, walked
from textkinds.machines import least_of
from textkinds.shapes import SIGNS


def either(one, other):
    """The machine that accepts what one of the two accepts, or both do."""
    return side_by_side(one, other, lambda end, other_end: end or other_end)


def both_of(one, other):
    """The machine that accepts what both accept."""
    return side_by_side(one, other, lambda end, other_end: end and other_end)


def without(one, other):
    """The machine that accepts what the one accepts and the other does not."""
    return side_by_side(one, other, lambda end, other_end: end and not other_end)


def other_than(one):
    """The machine that accepts all texts that the one does not."""
    ends, rows = least_of(one)
    return tuple([not end for end in ends]), rows


def then(one, other):
    """The machine that accepts a text of the one with one of the other behind it."""
    return one_then_other(least_of(one), least_of(other))


def repeated(one):
    """The machine that accepts any number of texts of the one, one behind the other, none too."""
    return any_number(least_of(one))


def turned(one):
    """The machine that accepts the texts of the one turned about."""
    ends, rows = least_of(one)
    backward = [comers(rows, column) for column in range(len(SIGNS))]

    def step(states, column):
        return tuple(sorted({comer for state in states for comer in backward[column][state]}))

    # As each state of the one is reached, unlike tuples are told apart: no two states have to be made one.
    keys, turned_rows = walked(tuple([state for state, end in enumerate(ends) if end]), step)
    return tuple([0 in states for states in keys]), turned_rows
