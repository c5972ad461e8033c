"""The texts that a machine accepts: how many there are, and which, by their order."""

from textkinds.building import distances, first_text, states_along, walked
from textkinds.errors import NoneSuch
from textkinds.shapes import SIGNS


def onward_goals(machine):
    """For each state that is reached, in that order, the list of those next to it from which a text is accepted."""
    ends, rows = machine
    keys, reached_rows = walked(0, lambda state, column: rows[state][column])
    steps = distances([ends[key] for key in keys], reached_rows, True)
    return [[goal for goal in row if steps[goal] is not None] for row in reached_rows]


def last_length(machine):
    """The length of the longest accepted texts; -1 without any, None where there are always longer ones."""
    if least_text(machine) is None:
        return -1
    onward = onward_goals(machine)
    awaited = [0] * len(onward)
    for goals in onward:
        for goal in goals:
            awaited[goal] += 1
    lengths = [0] * len(onward)
    # A state's turn comes when all ways to it are gone; where one leads round to itself that never comes.
    waiting = [state for state, many in enumerate(awaited) if many == 0]
    while waiting:
        state = waiting.pop()
        for goal in onward[state]:
            lengths[goal] = max(lengths[goal], lengths[state] + 1)
            awaited[goal] -= 1
            if awaited[goal] == 0:
                waiting.append(goal)
    return max(lengths) if max(awaited) == 0 else None


def is_finite(machine):
    """Whether there is no accepted text, or a longest one."""
    return last_length(machine) is not None


def longest(machine):
    """The length of the longest accepted texts; None without any, or where there are always longer ones."""
    last = last_length(machine)
    return None if last == -1 else last


def least_text(machine):
    """The first accepted text; None without any."""
    ends, rows = machine
    return first_text(0, lambda state, column: rows[state][column], lambda state: ends[state])


def no_signs(machine):
    """For each state how many texts without signs are accepted from there."""
    return [1 if end else 0 for end in machine[0]]


def one_more_sign(machine, counts):
    """For each state how many texts are accepted from there that are one sign longer than those counted."""
    return [sum([counts[goal] for goal in row]) for row in machine[1]]


def how_many(machine, long):
    """How many texts of this length are accepted."""
    last = last_length(machine)
    if last is not None and long > last:
        return 0
    counts = no_signs(machine)
    for step in range(long):
        counts = one_more_sign(machine, counts)
    return counts[0]


def texts_of_length(machine, tables, size):
    """So many first ones of the accepted texts of the length of the last table, or all there are.

    Of the tables each has, for each state, how many texts of the length of its place are accepted from there.
    """
    found = [("", 0)] if tables[-1][0] > 0 else []
    for counts in reversed(tables[:-1]):
        longer = []
        for text, state in found:
            for sign, goal in zip(SIGNS, machine[1][state]):
                if counts[goal] > 0:
                    longer.append((text + sign, goal))
        # From each beginning some text is accepted, so more of them than texts are asked for are of no use.
        found = longer[:size]
    return [text for text, state in found[:size]]


def texts_up_to(machine, long):
    """A list of all accepted texts up to this length, in their order."""
    last = last_length(machine)
    told = []
    tables = [no_signs(machine)]
    while len(tables) <= (long if last is None else min(long, last)) + 1:
        told.extend(texts_of_length(machine, tables, tables[-1][0]))
        tables.append(one_more_sign(machine, tables[-1]))
    return told


def first_texts(machine, size):
    """A list of so many first accepted texts, or all there are."""
    last = last_length(machine)
    told = []
    tables = [no_signs(machine)]
    while len(told) < size and (last is None or len(tables) <= last + 1):
        told.extend(texts_of_length(machine, tables, size - len(told)))
        tables.append(one_more_sign(machine, tables[-1]))
    return told


def text_at(machine, number):
    """The accepted text ahead of which so many stand."""
    last = last_length(machine)
    left = number
    tables = [no_signs(machine)]
    while left >= tables[-1][0]:
        if last is not None and len(tables) > last:
            raise NoneSuch("fewer texts are accepted")
        left -= tables[-1][0]
        tables.append(one_more_sign(machine, tables[-1]))
    return text_of_length_at(machine, tables, left)


def text_of_length_at(machine, tables, number):
    """The text of the length of the last table ahead of which so many of this length stand."""
    signs = []
    state = 0
    left = number
    for counts in reversed(tables[:-1]):
        column = 0
        while left >= counts[machine[1][state][column]]:
            left -= counts[machine[1][state][column]]
            column += 1
        signs.append(SIGNS[column])
        state = machine[1][state][column]
    return "".join(signs)


def rank_of(machine, text):
    """How many accepted texts stand ahead of an accepted one; None of one that is not."""
    ends, rows = machine
    states = states_along(rows, text)
    if not ends[states[-1]]:
        return None
    rank = 0
    # From the last sign on: the texts counted are as long as what stands behind this place.
    counts = no_signs(machine)
    for place in reversed(range(len(text))):
        lower = rows[states[place]][:SIGNS.index(text[place])]
        rank += counts[0] + sum([counts[goal] for goal in lower])
        counts = one_more_sign(machine, counts)
    return rank
