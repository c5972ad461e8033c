"""Machines built of keys and of other machines, the least ones, and the ways through them.

A machine is a tuple (ends, rows): for each state whether a text may end there,
and a tuple of the states to which the four signs lead from it. It begins at state 0.

A web is a tuple (starts, ends, edges): it may begin at several states, and of each state it has a list
of (column, goal), in which a sign's number may stand with several goals, or with none. It accepts a text
if one of all ways comes to an end. So deed may follow on deed without growing much; a machine is made at last.
"""

from textkinds.shapes import SIGNS


def walked(start, step):
    """All keys to which steps lead from the start, in the order in which they do, and for each its row.

    step(key, column) tells the key to which the sign of this number leads.
    """
    keys = [start]
    numbers = {start: 0}
    rows = []
    while len(rows) < len(keys):
        key = keys[len(rows)]
        row = []
        for column in range(len(SIGNS)):
            goal = step(key, column)
            if goal not in numbers:
                numbers[goal] = len(keys)
                keys.append(goal)
            row.append(numbers[goal])
        rows.append(tuple(row))
    return keys, tuple(rows)


def first_text(start, step, is_end):
    """The first text whose steps lead from the start to a key that is an end; None, where none does."""
    keys = [start]
    texts = {start: ""}
    place = 0
    # Keys come in the order of the first texts that lead to them, so the first end is that of the first text.
    while place < len(keys):
        key = keys[place]
        if is_end(key):
            return texts[key]
        for column, sign in enumerate(SIGNS):
            goal = step(key, column)
            if goal not in texts:
                texts[goal] = texts[key] + sign
                keys.append(goal)
        place += 1
    return None


def states_along(rows, text, start=0):
    """All states that a text leads through from the start, the first one too."""
    states = [start]
    for sign in text:
        states.append(rows[states[-1]][SIGNS.index(sign)])
    return states


def comers(rows, column):
    """For each state the list of those from which the sign of this number leads to it."""
    told = [[] for row in rows]
    for state, row in enumerate(rows):
        told[row[column]].append(state)
    return told


def all_reached(some, onward):
    """A dict of some states and of all to which steps lead from them: by how few. onward lists those next to each."""
    reached = {state: 0 for state in some}
    states = list(reached)
    place = 0
    while place < len(states):
        state = states[place]
        for goal in onward[state]:
            if goal not in reached:
                reached[goal] = reached[state] + 1
                states.append(goal)
        place += 1
    return reached


def distances(ends, rows, wanted):
    """For each state how many signs lead from it to the nearest one whose truth is as wanted; None, where none do."""
    backward = [[] for row in rows]
    for state, row in enumerate(rows):
        for goal in row:
            backward[goal].append(state)
    reached = all_reached([state for state, end in enumerate(ends) if end == wanted], backward)
    return [reached.get(state) for state in range(len(ends))]


def numbered(marks):
    """For each mark a number from 0 on, the same for like ones."""
    numbers = {}
    return [numbers.setdefault(mark, len(numbers)) for mark in marks]


def told_apart(ends, rows):
    """For each state a number: the same for two of them, where no text tells them apart."""
    # States at unlike distances are told apart at once; else a long chain would take a round for each state.
    blocks = numbered(list(zip(distances(ends, rows, True), distances(ends, rows, False))))
    many = 0
    while max(blocks) >= many:
        many = max(blocks) + 1
        blocks = numbered([(block, tuple([blocks[goal] for goal in row])) for block, row in zip(blocks, rows)])
    return blocks


def least(ends, rows):
    """The machine of the fewest states that accepts the same, its states numbered as they are reached."""
    blocks = told_apart(ends, rows)
    samples = {}
    for state, block in enumerate(blocks):
        samples.setdefault(block, state)
    keys, fewer_rows = walked(blocks[0], lambda block, column: blocks[rows[samples[block]][column]])
    return tuple([ends[samples[block]] for block in keys]), fewer_rows


def built(start, step, is_end):
    """The least machine whose states are keys."""
    keys, rows = walked(start, step)
    return least([is_end(key) for key in keys], rows)


def pair_step(one, other):
    """The step of pairs of states, that goes through both machines at once."""
    rows = one[1]
    other_rows = other[1]
    return lambda pair, column: (rows[pair[0]][column], other_rows[pair[1]][column])


def pair_end(one, other, is_end):
    """Whether a pair of states is an end: what is_end(end, other_end) says of both truths."""
    ends = one[0]
    other_ends = other[0]
    return lambda pair: is_end(ends[pair[0]], other_ends[pair[1]])


def side_by_side(one, other, is_end):
    """The least machine that goes both ways at once, and ends where is_end(end, other_end) of both ends says so."""
    return built((0, 0), pair_step(one, other), pair_end(one, other, is_end))


def lost_state(machine):
    """The state of a least machine from which no text is accepted; None without such."""
    ends, rows = machine
    for state, row in enumerate(rows):
        if not ends[state] and row == (state,) * len(SIGNS):
            return state
    return None


class Several:
    """Rising tuples of states of a least machine, that go on together: accepted is what one of them accepts.

    A state all of whose texts another one accepts, too, is left out; else far more tuples than are needed are met.
    """

    def __init__(self, machine):
        self.ends = machine[0]
        self.rows = machine[1]
        self.lost = lost_state(machine)
        self.known = {}

    def covers(self, state, other):
        """Whether all texts that are accepted from the other state are accepted from this one, too."""
        pair = (state, other)
        if pair not in self.known:
            self.find_out(pair)
        return self.known[pair]

    def find_out(self, pair):
        """Goes on from a pair of states, and keeps of each one met, as far as can be told, whether the one covers."""
        met = {pair: None}
        waiting = [pair]
        while waiting:
            here = waiting.pop()
            state, other = here
            if self.known.get(here) is False or (self.ends[other] and not self.ends[state]):
                self.keep_false(here, met)
                return
            for goals in zip(self.rows[state], self.rows[other]):
                if goals not in met and goals[0] != goals[1] and self.known.get(goals) is not True:
                    met[goals] = here
                    waiting.append(goals)
        for here in met:
            self.known[here] = True

    def keep_false(self, pair, met):
        """Keeps of a pair, and of all through which it was met, that the one does not cover the other."""
        here = pair
        while here is not None:
            self.known[here] = False
            here = met[here]

    def needed(self, some):
        """The tuple of those of some states that are needed."""
        states = sorted(set(some) - {self.lost})
        return tuple([
            state for state in states
            if not any([self.covers(other, state) for other in states if other != state])
        ])

    def moved(self, states, column):
        """The tuple to which the sign of this number leads."""
        return self.needed([self.rows[state][column] for state in states])

    def begun(self, states):
        """The tuple, and with it the first state."""
        return self.needed(states + (0,))

    def is_end(self, states):
        """Whether the empty text is accepted from there."""
        return any([self.ends[state] for state in states])


def one_then_other(one, other):
    """The least machine of a text of the one and behind it one of the other, both least ones."""
    ends, rows = one
    several = Several(other)

    def begun(state, states):
        return state, (several.begun(states) if ends[state] else states)

    def step(key, column):
        return begun(rows[key[0]][column], several.moved(key[1], column))

    return built(begun(0, ()), step, lambda key: several.is_end(key[1]))


def any_number(one):
    """The least machine of any number of texts of a least one, one behind the other."""
    several = Several(one)

    def step(key, column):
        states = several.moved(key[1], column)
        return False, (several.begun(states) if several.is_end(states) else states)

    # The beginning is told from state 0 reached later on: only there no text at all will do.
    return built((True, (0,)), step, lambda key: key[0] or several.is_end(key[1]))


def renumbered(web, numbers):
    """The web with states numbered anew by a dict: those of one number become one, those of none are left out."""
    starts, ends, edges = web
    many = max(list(numbers.values()), default=-1) + 1
    new_ends = [False] * many
    new_edges = [{} for number in range(many)]
    for state, number in numbers.items():
        new_ends[number] = new_ends[number] or ends[state]
        for column, goal in edges[state]:
            if goal in numbers:
                new_edges[number][(column, numbers[goal])] = True
    new_starts = {numbers[start]: True for start in starts if start in numbers}
    return list(new_starts), new_ends, [list(steps) for steps in new_edges]


def goals_of(web):
    """For each state of a web the list of those next to it."""
    return [[goal for column, goal in steps] for steps in web[2]]


def ways_to_ends(web):
    """A dict of all states of a web from which a text is accepted: by how few signs."""
    backward = turned_web(web)
    return all_reached(backward[0], goals_of(backward))


def useful(web):
    """The web without states that are not reached, or from which no text is accepted."""
    reached = all_reached(web[0], goals_of(web))
    led = ways_to_ends(web)
    kept = [state for state in range(len(web[1])) if state in reached and state in led]
    return renumbered(web, {state: number for number, state in enumerate(kept)})


def web_of(machine):
    """A web that accepts what the machine does."""
    ends, rows = least(machine[0], machine[1])
    return useful(([0], list(ends), [list(enumerate(row)) for row in rows]))


def spun(starts, steps, is_end):
    """The web whose states are keys: those of a list, and all to which steps(key), a list of (column, key), lead."""
    keys = list(starts)
    numbers = {key: number for number, key in enumerate(keys)}
    edges = []
    while len(edges) < len(keys):
        key = keys[len(edges)]
        told = []
        for column, goal in steps(key):
            if goal not in numbers:
                numbers[goal] = len(keys)
                keys.append(goal)
            told.append((column, numbers[goal]))
        edges.append(told)
    return list(range(len(starts))), [is_end(key) for key in keys], edges


def turned_web(web):
    """The web of the same texts turned about."""
    starts, ends, edges = web
    backward = [[] for steps in edges]
    for state, steps in enumerate(edges):
        for column, goal in steps:
            backward[goal].append((column, state))
    begins = {start: True for start in starts}
    return [state for state, end in enumerate(ends) if end], [state in begins for state in range(len(ends))], backward


def then_web(one, other):
    """The web of a text of the one and behind it one of the other."""
    starts, ends, edges = one
    other_starts, other_ends, other_edges = other
    further = [[(column, len(ends) + goal) for column, goal in steps] for steps in other_edges]
    begun = [step for start in other_starts for step in further[start]]
    may_end = any([other_ends[start] for start in other_starts])
    new_edges = [steps + begun if end else steps for end, steps in zip(ends, edges)]
    return useful((starts, [end and may_end for end in ends] + other_ends, new_edges + further))


def merged(web):
    """The web with all states as one that have the same ways ahead of them."""
    # As in told_apart: a long chain would take a round for each state.
    led = ways_to_ends(web)
    blocks = numbered([led.get(state) for state in range(len(web[1]))])
    many = 0
    while max(blocks, default=-1) >= many:
        many = max(blocks) + 1
        ahead = [tuple(sorted({(column, blocks[goal]) for column, goal in steps})) for steps in web[2]]
        blocks = numbered(list(zip(blocks, ahead)))
    return renumbered(web, {state: block for state, block in enumerate(blocks)})


def narrowed(web):
    """The web with all states as one that have the same ways ahead of them or behind them, again and again."""
    fewer = turned_web(merged(turned_web(merged(web))))
    while len(fewer[1]) < len(web[1]):
        web = fewer
        fewer = turned_web(merged(turned_web(merged(web))))
    return fewer


def machine_by(web):
    """The least machine that accepts what the web does."""
    starts, ends, edges = web
    goals = [[[goal for place, goal in steps if place == column] for column in range(len(SIGNS))] for steps in edges]
    # From such a state all texts are accepted, so others beside it would only make more keys.
    full = [end and all([state in row for row in goals[state]]) for state, end in enumerate(ends)]

    def key_of(some):
        alone = [state for state in some if full[state]]
        return tuple(alone[:1] if alone else some)

    def step(states, column):
        return key_of(sorted({goal for state in states for goal in goals[state][column]}))

    return built(key_of(sorted(starts)), step, lambda states: any([ends[state] for state in states]))


def one_sign(some):
    """The least machine of each of some signs as a text."""
    first = tuple([1 if sign in some else 2 for sign in SIGNS])
    return least([False, True, False], [first, (2, 2, 2, 2), (2, 2, 2, 2)])


def row_machine(row, machines):
    """The least machine of a shape's row, from those of the rows ahead of it."""
    word = row[0]
    if word == "none":
        return (False,), ((0, 0, 0, 0),)
    if word == "empty":
        return (True, False), ((1, 1, 1, 1), (1, 1, 1, 1))
    if word == "signs":
        return one_sign(row[1])
    one = machines[row[1]]
    if word == "not":
        return tuple([not end for end in one[0]]), one[1]
    if word == "many":
        return any_number(one)
    other = machines[row[2]]
    if word == "then":
        return one_then_other(one, other)
    if word == "or":
        return side_by_side(one, other, lambda end, other_end: end or other_end)
    return side_by_side(one, other, lambda end, other_end: end and other_end)
