"""The least machines of parts of shapes, built from those of smaller parts.

A machine is a tuple (ends, rows): for each state whether a text may end there,
and a tuple of the states to which the four signs lead from it. It begins at state 0.
"""

from textkinds.shapes import SIGNS


def walked(start, step):
    """All keys to which steps lead from the start, in the order in which they do, and for each its row.

    step(key, column) tells the key to which the sign of this number leads.
    """
    keys = [start]
    numbers = {start: 0}
    rows = []
    while len(rows) < len(keys):
        key = keys[len(rows)]
        row = []
        for column in range(len(SIGNS)):
            goal = step(key, column)
            if goal not in numbers:
                numbers[goal] = len(keys)
                keys.append(goal)
            row.append(numbers[goal])
        rows.append(tuple(row))
    return keys, tuple(rows)


def told_apart(ends, rows):
    """For each state a number: the same for two of them, where no text tells them apart."""
    blocks = [1 if end else 0 for end in ends]
    many = 0
    while len(set(blocks)) > many:
        many = len(set(blocks))
        numbers = {}
        finer = []
        for block, row in zip(blocks, rows):
            mark = (block, tuple([blocks[goal] for goal in row]))
            finer.append(numbers.setdefault(mark, len(numbers)))
        blocks = finer
    return blocks


def least(ends, rows):
    """The machine of the fewest states that accepts the same, its states numbered as they are reached."""
    blocks = told_apart(ends, rows)
    samples = {}
    for state, block in enumerate(blocks):
        samples.setdefault(block, state)
    keys, fewer_rows = walked(blocks[0], lambda block, column: blocks[rows[samples[block]][column]])
    return tuple([ends[samples[block]] for block in keys]), fewer_rows


def built(start, step, is_end):
    """The least machine whose states are keys."""
    keys, rows = walked(start, step)
    return least([is_end(key) for key in keys], rows)


def side_by_side(one, other, is_end):
    """The least machine that goes both ways at once, and ends where is_end(end, other_end) of both ends says so."""
    ends, rows = one
    other_ends, other_rows = other

    def step(pair, column):
        return rows[pair[0]][column], other_rows[pair[1]][column]

    return built((0, 0), step, lambda pair: is_end(ends[pair[0]], other_ends[pair[1]]))


def moved(rows, states, column):
    """The rising tuple of the states to which a sign leads from some states."""
    return tuple(sorted({rows[state][column] for state in states}))


def with_start(states):
    """The states, and the first one with them."""
    return tuple(sorted(set(states) | {0}))


def one_then_other(one, other):
    """The least machine of a text of the one and behind it one of the other."""
    ends, rows = one
    other_ends, other_rows = other

    def begun(state, states):
        return state, (with_start(states) if ends[state] else states)

    def step(key, column):
        return begun(rows[key[0]][column], moved(other_rows, key[1], column))

    return built(begun(0, ()), step, lambda key: any([other_ends[state] for state in key[1]]))


def any_number(one):
    """The least machine of any number of texts of the one, one behind the other."""
    ends, rows = one

    def step(key, column):
        states = moved(rows, key[1], column)
        if any([ends[state] for state in states]):
            states = with_start(states)
        return False, states

    # The beginning is told from state 0 reached later on: only there no text at all will do.
    return built((True, (0,)), step, lambda key: key[0] or any([ends[state] for state in key[1]]))


def one_sign(some):
    """The least machine of each of some signs as a text."""
    first = tuple([1 if sign in some else 2 for sign in SIGNS])
    return least([False, True, False], [first, (2, 2, 2, 2), (2, 2, 2, 2)])


def row_machine(row, machines):
    """The least machine of a shape's row, from those of the rows ahead of it."""
    word = row[0]
    if word == "none":
        return (False,), ((0, 0, 0, 0),)
    if word == "empty":
        return (True, False), ((1, 1, 1, 1), (1, 1, 1, 1))
    if word == "signs":
        return one_sign(row[1])
    one = machines[row[1]]
    if word == "not":
        return tuple([not end for end in one[0]]), one[1]
    if word == "many":
        return any_number(one)
    other = machines[row[2]]
    if word == "then":
        return one_then_other(one, other)
    if word == "or":
        return side_by_side(one, other, lambda end, other_end: end or other_end)
    return side_by_side(one, other, lambda end, other_end: end and other_end)
