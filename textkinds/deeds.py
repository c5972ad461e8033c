"""Deeds: what taking, dropping and replacing make of texts and of machines, and what comes before them."""

from textkinds.algebra import turned
from textkinds.building import all_reached, built, least, machine_by, spun, states_along, useful, web_of
from textkinds.machines import least_of
from textkinds.shapes import SIGNS


def text_taken(text, many):
    """The first so many signs of the text, or all."""
    return text[:many]


def text_dropped(text, many):
    """The text without its first so many signs."""
    return text[many:]


def text_replaced(text, sign, other):
    """The text with the other one in the stead of each such sign."""
    return text.replace(sign, other)


def taken(one, many):
    """The machine that accepts just the first so many signs, or all, of accepted texts."""
    return machine_by(taken_web(web_of(one), many))


def taken_web(web, many):
    """The web of the first so many signs, or all, of the texts of a web whose states are all of use."""
    starts, ends, edges = web

    def steps(key):
        state, read = key
        return [] if read == many else [(column, (goal, read + 1)) for column, goal in edges[state]]

    return spun([(start, 0) for start in starts], steps, lambda key: key[1] == many or ends[key[0]])


def dropped(one, many):
    """The machine that accepts just what accepted texts are without their first so many signs."""
    return machine_by(dropped_web(web_of(one), many))


def dropped_web(web, many):
    """The web of what the texts of a web are without their first so many signs."""
    starts, ends, edges = web
    met = []
    places = {}
    states = tuple(sorted(starts))
    while len(met) < many and states not in places:
        places[states] = len(met)
        met.append(states)
        states = tuple(sorted({goal for state in states for column, goal in edges[state]}))
    if states in places:
        # From here on the same ones come round, so that a great number need not be gone through.
        begin = places[states]
        states = met[begin + (many - begin) % (len(met) - begin)]
    if not any([ends[state] for group in met for state in group]):
        return useful((states, ends, edges))
    # Of a text of fewer signs nothing is left: a start of its own for the empty text.
    return useful((states + (len(ends),), ends + [True], edges + [[]]))


def replaced(one, sign, other):
    """The machine that accepts just what accepted texts are with the other text in the stead of each such sign."""
    return machine_by(replaced_web(web_of(one), sign, other))


def replaced_web(web, sign, other):
    """The web of what the texts of a web are with the other text in the stead of each such sign."""
    if other == "":
        return left_out(web, SIGNS.index(sign))
    return put_instead(web, SIGNS.index(sign), [SIGNS.index(one) for one in other])


def left_out(web, place):
    """The web of the texts of a web without the sign of this number."""
    starts, ends, edges = web
    onward = [[goal for column, goal in steps if column == place] for steps in edges]
    groups = [list(all_reached([state], onward)) for state in range(len(ends))]
    new_ends = [any([ends[state] for state in group]) for group in groups]
    return useful((starts, new_ends, [
        [step for state in group for step in edges[state] if step[0] != place] for group in groups
    ]))


def put_instead(web, place, columns):
    """The web of the texts of a web with one sign or more in the stead of a sign, all by their numbers.

    A key is a state, and how many signs that stand instead are read on the way to it, if it is not reached.
    """
    starts, ends, edges = web

    def steps(key):
        state, read = key
        if read > 0:
            return [(columns[read], (state, (read + 1) % len(columns)))]
        return [
            (columns[0], (goal, 1 % len(columns))) if column == place else (column, (goal, 0))
            for column, goal in edges[state]
        ]

    return spun([(start, 0) for start in starts], steps, lambda key: key[1] == 0 and ends[key[0]])


def before_taken(one, many):
    """The machine that accepts just the texts whose first so many signs, or all, are accepted."""
    ends, rows = least_of(one)

    def key_of(state, left):
        # Where all signs lead back to a state, the number of signs left must not tell keys apart: it may be great.
        return state, (0 if rows[state] == (state,) * len(SIGNS) else left)

    def step(key, column):
        return key_of(rows[key[0]][column], key[1] - 1) if key[1] > 0 else key

    return built(key_of(0, many), step, lambda key: ends[key[0]])


def before_dropped(one, many):
    """The machine that accepts just the texts that are accepted without their first so many signs."""
    ends, rows = least_of(one)
    if len(rows) == 1:
        return ends, rows
    ahead = [(state + 1,) * len(SIGNS) for state in range(many)]
    behind = [tuple([many + goal for goal in row]) for row in rows]
    return least([ends[0]] * many + list(ends), ahead + behind)


def before_replaced(one, sign, other):
    """The machine that accepts just the texts that are accepted with the other text in the stead of each such sign."""
    ends, rows = one
    place = SIGNS.index(sign)
    led = [states_along(rows, other, state)[-1] for state in range(len(rows))]
    return least(ends, [row[:place] + (goal,) + row[place + 1:] for row, goal in zip(rows, led)])


def before_turned(one):
    """The machine that accepts just the texts that are accepted turned about."""
    return turned(one)


def machine_of(some):
    """The machine that accepts just some texts, a list."""
    # State 1 is the one from which nothing is accepted; all others are reached by one beginning of a text each.
    rows = [[1, 1, 1, 1], [1, 1, 1, 1]]
    ends = [False, False]
    for text in some:
        state = 0
        for sign in text:
            column = SIGNS.index(sign)
            if rows[state][column] == 1:
                rows[state][column] = len(rows)
                rows.append([1, 1, 1, 1])
                ends.append(False)
            state = rows[state][column]
        ends[state] = True
    return least(ends, [tuple(row) for row in rows])


def in_line(ends):
    """The machine whose signs all lead on from state to state, and from the last one back to it."""
    last = len(ends) - 1
    return ends, tuple([(min(state + 1, last),) * len(SIGNS) for state in range(len(ends))])


def all_of(many):
    """The machine that accepts all texts of so many signs."""
    return in_line((False,) * many + (True, False))


def all_below(many):
    """The machine that accepts all texts of fewer signs."""
    return in_line((True,) * many + (False,))


def everything():
    """The machine that accepts all texts."""
    return in_line((True,))
