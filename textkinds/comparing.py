"""Machines compared: texts that tell them apart, and how they lie to one another."""

from textkinds.building import first_text, pair_end, pair_step


def first_of_both(one, other, is_wanted):
    """The first text of which is_wanted(end, other_end) holds, if it comes to these truths; None without any."""
    return first_text((0, 0), pair_step(one, other), pair_end(one, other, is_wanted))


def parting(one, other):
    """The first text that the one accepts and the other does not; None without any."""
    return first_of_both(one, other, lambda end, other_end: end and not other_end)


def meeting(one, other):
    """The first text that both accept; None without any."""
    return first_of_both(one, other, lambda end, other_end: end and other_end)


def unlike(one, other):
    """The first text that just one of them accepts; None without any."""
    return first_of_both(one, other, lambda end, other_end: end != other_end)


def within(one, other):
    """Whether the other accepts all that the one does."""
    return parting(one, other) is None


def how_they_lie(one, other):
    """How the texts of the one lie to those of the other: same, less, more, apart or cross."""
    if unlike(one, other) is None:
        return "same"
    if within(one, other):
        return "less"
    if within(other, one):
        return "more"
    return "apart" if meeting(one, other) is None else "cross"
