"""Machines built of keys and of other machines, the least ones, and the ways through them.

A machine is a tuple (ends, rows): for each state whether a text may end there,
and a tuple of the states to which the four signs lead from it. It begins at state 0.
"""

from textkinds.shapes import SIGNS


def walked(start, step):
    """All keys to which steps lead from the start, in the order in which they do, and for each its row.

    step(key, column) tells the key to which the sign of this number leads.
    """
    keys = [start]
    numbers = {start: 0}
    rows = []
    while len(rows) < len(keys):
        key = keys[len(rows)]
        row = []
        for column in range(len(SIGNS)):
            goal = step(key, column)
            if goal not in numbers:
                numbers[goal] = len(keys)
                keys.append(goal)
            row.append(numbers[goal])
        rows.append(tuple(row))
    return keys, tuple(rows)


def first_text(start, step, is_end):
    """The first text whose steps lead from the start to a key that is an end; None, where none does."""
    keys = [start]
    texts = {start: ""}
    place = 0
    # Keys come in the order of the first texts that lead to them, so the first end is that of the first text.
    while place < len(keys):
        key = keys[place]
        if is_end(key):
            return texts[key]
        for column, sign in enumerate(SIGNS):
            goal = step(key, column)
            if goal not in texts:
                texts[goal] = texts[key] + sign
                keys.append(goal)
        place += 1
    return None


def states_along(rows, text):
    """All states that a text leads through, the first one too."""
    states = [0]
    for sign in text:
        states.append(rows[states[-1]][SIGNS.index(sign)])
    return states


def comers(rows, column):
    """For each state the list of those from which the sign of this number leads to it."""
    told = [[] for row in rows]
    for state, row in enumerate(rows):
        told[row[column]].append(state)
    return told


def distances(ends, rows, wanted):
    """For each state how many signs lead from it to the nearest one whose truth is as wanted; None, where none do."""
    steps = [0 if end == wanted else None for end in ends]
    reached = [state for state, end in enumerate(ends) if end == wanted]
    backward = [comers(rows, column) for column in range(len(SIGNS))]
    place = 0
    while place < len(reached):
        goal = reached[place]
        for column in range(len(SIGNS)):
            for state in backward[column][goal]:
                if steps[state] is None:
                    steps[state] = steps[goal] + 1
                    reached.append(state)
        place += 1
    return steps


def numbered(marks):
    """For each mark a number from 0 on, the same for like ones."""
    numbers = {}
    return [numbers.setdefault(mark, len(numbers)) for mark in marks]


def told_apart(ends, rows):
    """For each state a number: the same for two of them, where no text tells them apart."""
    # States at unlike distances are told apart at once; else a long chain would take a round for each state.
    blocks = numbered(list(zip(distances(ends, rows, True), distances(ends, rows, False))))
    many = 0
    while max(blocks) >= many:
        many = max(blocks) + 1
        blocks = numbered([(block, tuple([blocks[goal] for goal in row])) for block, row in zip(blocks, rows)])
    return blocks


def least(ends, rows):
    """The machine of the fewest states that accepts the same, its states numbered as they are reached."""
    blocks = told_apart(ends, rows)
    samples = {}
    for state, block in enumerate(blocks):
        samples.setdefault(block, state)
    keys, fewer_rows = walked(blocks[0], lambda block, column: blocks[rows[samples[block]][column]])
    return tuple([ends[samples[block]] for block in keys]), fewer_rows


def built(start, step, is_end):
    """The least machine whose states are keys."""
    keys, rows = walked(start, step)
    return least([is_end(key) for key in keys], rows)


def pair_step(one, other):
    """The step of pairs of states, that goes through both machines at once."""
    rows = one[1]
    other_rows = other[1]
    return lambda pair, column: (rows[pair[0]][column], other_rows[pair[1]][column])


def pair_end(one, other, is_end):
    """Whether a pair of states is an end: what is_end(end, other_end) says of both truths."""
    ends = one[0]
    other_ends = other[0]
    return lambda pair: is_end(ends[pair[0]], other_ends[pair[1]])


def side_by_side(one, other, is_end):
    """The least machine that goes both ways at once, and ends where is_end(end, other_end) of both ends says so."""
    return built((0, 0), pair_step(one, other), pair_end(one, other, is_end))


def lost_state(machine):
    """The state of a least machine from which no text is accepted; None without such."""
    ends, rows = machine
    for state, row in enumerate(rows):
        if not ends[state] and row == (state,) * len(SIGNS):
            return state
    return None


class Several:
    """Rising tuples of states of a least machine, that go on together: accepted is what one of them accepts.

    A state all of whose texts another one accepts, too, is left out; else far more tuples than are needed are met.
    """

    def __init__(self, machine):
        self.ends = machine[0]
        self.rows = machine[1]
        self.lost = lost_state(machine)
        self.known = {}

    def covers(self, state, other):
        """Whether all texts that are accepted from the other state are accepted from this one, too."""
        pair = (state, other)
        if pair not in self.known:
            self.find_out(pair)
        return self.known[pair]

    def find_out(self, pair):
        """Goes on from a pair of states, and keeps of each one met, as far as can be told, whether the one covers."""
        met = {pair: None}
        waiting = [pair]
        while waiting:
            here = waiting.pop()
            state, other = here
            if self.known.get(here) is False or (self.ends[other] and not self.ends[state]):
                self.keep_false(here, met)
                return
            for goals in zip(self.rows[state], self.rows[other]):
                if goals not in met and goals[0] != goals[1] and self.known.get(goals) is not True:
                    met[goals] = here
                    waiting.append(goals)
        for here in met:
            self.known[here] = True

    def keep_false(self, pair, met):
        """Keeps of a pair, and of all through which it was met, that the one does not cover the other."""
        here = pair
        while here is not None:
            self.known[here] = False
            here = met[here]

    def needed(self, some):
        """The tuple of those of some states that are needed."""
        states = sorted(set(some) - {self.lost})
        return tuple([
            state for state in states
            if not any([self.covers(other, state) for other in states if other != state])
        ])

    def moved(self, states, column):
        """The tuple to which the sign of this number leads."""
        return self.needed([self.rows[state][column] for state in states])

    def begun(self, states):
        """The tuple, and with it the first state."""
        return self.needed(states + (0,))

    def is_end(self, states):
        """Whether the empty text is accepted from there."""
        return any([self.ends[state] for state in states])


def one_then_other(one, other):
    """The least machine of a text of the one and behind it one of the other, both least ones."""
    ends, rows = one
    several = Several(other)

    def begun(state, states):
        return state, (several.begun(states) if ends[state] else states)

    def step(key, column):
        return begun(rows[key[0]][column], several.moved(key[1], column))

    return built(begun(0, ()), step, lambda key: several.is_end(key[1]))


def any_number(one):
    """The least machine of any number of texts of a least one, one behind the other."""
    several = Several(one)

    def step(key, column):
        states = several.moved(key[1], column)
        return False, (several.begun(states) if several.is_end(states) else states)

    # The beginning is told from state 0 reached later on: only there no text at all will do.
    return built((True, (0,)), step, lambda key: key[0] or several.is_end(key[1]))


def one_sign(some):
    """The least machine of each of some signs as a text."""
    first = tuple([1 if sign in some else 2 for sign in SIGNS])
    return least([False, True, False], [first, (2, 2, 2, 2), (2, 2, 2, 2)])


def row_machine(row, machines):
    """The least machine of a shape's row, from those of the rows ahead of it."""
    word = row[0]
    if word == "none":
        return (False,), ((0, 0, 0, 0),)
    if word == "empty":
        return (True, False), ((1, 1, 1, 1), (1, 1, 1, 1))
    if word == "signs":
        return one_sign(row[1])
    one = machines[row[1]]
    if word == "not":
        return tuple([not end for end in one[0]]), one[1]
    if word == "many":
        return any_number(one)
    other = machines[row[2]]
    if word == "then":
        return one_then_other(one, other)
    if word == "or":
        return side_by_side(one, other, lambda end, other_end: end or other_end)
    return side_by_side(one, other, lambda end, other_end: end and other_end)
