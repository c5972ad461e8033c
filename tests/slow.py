"""What the document says, reckoned slowly and in another way: by sets of all short texts."""

import itertools
import random

SIGNS = "01ab"
NONE = ("none",)
EMPTY = ("empty",)
ALL = ("not", NONE)
ANY_SIGN = ("signs", SIGNS)


def signs(some):
    return ("signs", some)


def then(one, other):
    return ("then", one, other)


def either(one, other):
    return ("or", one, other)


def both(one, other):
    return ("and", one, other)


def other_than(one):
    return ("not", one)


def many(one):
    return ("many", one)


def texts_up_to(long):
    """All texts up to a length, in the document's order."""
    return ["".join(text) for size in range(long + 1) for text in itertools.product(SIGNS, repeat=size)]


def behind(some, others, long):
    return {one + other for one in some for other in others if len(one) + len(other) <= long}


def fitting(shape, long):
    """The set of all texts up to a length that fit the shape."""
    word = shape[0]
    if word == "none":
        return set()
    if word == "empty":
        return {""}
    if word == "signs":
        return {sign for sign in shape[1] if long > 0}
    one = fitting(shape[1], long)
    if word == "not":
        return set(texts_up_to(long)) - one
    if word == "many":
        told = {""}
        while not behind(told, one, long) <= told:
            told |= behind(told, one, long)
        return told
    other = fitting(shape[2], long)
    if word == "then":
        return behind(one, other, long)
    return one | other if word == "or" else one & other


def is_made_of_shapes(thing):
    """Whether a thing is a shape of any number of parts."""
    sizes = {"none": 1, "empty": 1, "signs": 2, "then": 3, "or": 3, "and": 3, "not": 2, "many": 2}
    if not isinstance(thing, tuple) or sizes.get(thing[0]) != len(thing):
        return False
    if thing[0] == "signs":
        return thing[1] != "" and list(thing[1]) == sorted(set(thing[1]) & set(SIGNS))
    return all(is_made_of_shapes(part) for part in thing[1:])


def count_parts(shape):
    return 1 + sum(count_parts(part) for part in shape[1:] if isinstance(part, tuple))


def some_shape(source, parts):
    """A shape of so many parts."""
    if parts == 1:
        some = "".join(sign for sign in SIGNS if source.random() < 0.4)
        return source.choice([NONE, EMPTY, signs(some or "a"), signs(some or "01"), signs(some or "b")])
    if parts == 2 or source.random() < 0.4:
        return (source.choice(["not", "many"]), some_shape(source, parts - 1))
    first = source.randint(1, parts - 2)
    word = source.choice(["then", "then", "or", "and"])
    return (word, some_shape(source, first), some_shape(source, parts - 1 - first))


def some_shapes(seed, parts, size):
    """So many shapes, the same ones for the same seed."""
    source = random.Random(seed)
    return [some_shape(source, parts) for number in range(size)]


# One shape of each word at least, among them those in which not and and stand within then and many.
EACH_WORD = [
    NONE,
    EMPTY,
    ALL,
    signs("0"),
    signs("1"),
    signs("a"),
    signs("b"),
    signs("0b"),
    ANY_SIGN,
    then(signs("0"), signs("1")),
    then(many(signs("a")), signs("ab")),
    then(NONE, signs("0")),
    then(signs("0"), NONE),
    then(EMPTY, signs("0")),
    then(signs("0"), EMPTY),
    then(other_than(signs("0")), signs("1")),
    then(signs("0"), other_than(then(ANY_SIGN, ANY_SIGN))),
    then(both(many(signs("01")), ANY_SIGN), many(signs("b"))),
    either(signs("0"), then(signs("0"), signs("a"))),
    either(EMPTY, signs("1")),
    both(signs("01"), signs("1a")),
    both(many(signs("0")), many(signs("1"))),
    both(other_than(EMPTY), many(then(ANY_SIGN, ANY_SIGN))),
    other_than(EMPTY),
    other_than(many(signs("0a"))),
    other_than(then(ALL, then(signs("a"), ALL))),
    other_than(other_than(signs("1"))),
    many(NONE),
    many(EMPTY),
    many(many(signs("0"))),
    many(either(EMPTY, then(signs("a"), signs("b")))),
    many(other_than(signs("0"))),
    many(other_than(then(signs("01"), ALL))),
    many(both(then(ANY_SIGN, ANY_SIGN), other_than(then(signs("0"), ALL)))),
    many(then(signs("0"), many(signs("1")))),
]


def slow_end(machine, text):
    """The state to which a text leads."""
    state = 0
    for sign in text:
        state = machine[1][state]["01ab".find(sign)]
    return state


def accepted(machine, long):
    """The list of all texts up to a length that a machine accepts, in the document's order."""
    ends, rows = machine
    told = []
    level = [("", 0)]
    for size in range(long + 1):
        told += [text for text, state in level if ends[state] is True]
        level = [(text + sign, rows[state][place]) for text, state in level for place, sign in enumerate(SIGNS)]
    return told


def is_made_of_states(thing):
    """Whether a thing is a machine of any number of states."""
    ends, rows = thing
    if (thing.__class__, ends.__class__, rows.__class__) != (tuple, tuple, tuple) or len(ends) != len(rows):
        return False
    right_rows = all(row.__class__ is tuple and len(row) == 4 for row in rows)
    right_states = all(goal.__class__ is int and 0 <= goal < len(ends) for row in rows for goal in row)
    return len(ends) > 0 and all(end.__class__ is bool for end in ends) and right_rows and right_states


def reached_states(machine):
    """All states that are reached, in the order of [2.2]."""
    reached = [0]
    for state in reached:
        for goal in machine[1][state]:
            if goal not in reached:
                reached.append(goal)
    return reached


def unlike_pairs(machine):
    """All pairs of states that some text tells apart."""
    ends, rows = machine
    states = range(len(ends))
    unlike = {(one, other) for one in states for other in states if ends[one] != ends[other]}
    while True:
        more = {
            (one, other) for one in states for other in states
            if any(pair in unlike for pair in zip(rows[one], rows[other]))
        }
        if more <= unlike:
            return unlike
        unlike |= more


def slow_least(machine):
    """The least machine that accepts the same: of all like states the first one alone is kept."""
    ends, rows = machine
    unlike = unlike_pairs(machine)
    first = [min(other for other in range(len(ends)) if (state, other) not in unlike) for state in range(len(ends))]
    # Where the beginning is like another state, it is the first of them.
    fewer = (ends, tuple(tuple(first[goal] for goal in row) for row in rows))
    reached = reached_states(fewer)
    return (
        tuple(ends[state] for state in reached),
        tuple(tuple(reached.index(goal) for goal in fewer[1][state]) for state in reached),
    )


def some_machine(source, states):
    """A machine of so many states, most of them with some that are like others or never reached."""
    share = source.choice([0.1, 0.3, 0.5, 0.9])
    ends = tuple(source.random() < share for state in range(states))
    # Goals that do not lie far make machines that are not all of one kind.
    span = source.choice([1, 2, states])
    rows = tuple(
        tuple(min(states - 1, max(0, state + source.randint(-span, span))) for sign in SIGNS)
        for state in range(states)
    )
    return ends, rows


def some_machines(seed, states, size):
    """So many machines, the same ones for the same seed."""
    source = random.Random(seed)
    return [some_machine(source, states) for number in range(size)]


def shuffled(source, machine, more):
    """A machine that accepts the same, with so many more states, in another order but for the first one."""
    ends, rows = machine
    samples = list(range(len(ends))) + [source.randrange(len(ends)) for state in range(more)]
    tail = samples[1:]
    source.shuffle(tail)
    samples = samples[:1] + tail
    places = {state: [place for place, sample in enumerate(samples) if sample == state] for state in range(len(ends))}
    return (
        tuple(ends[sample] for sample in samples),
        tuple(tuple(source.choice(places[goal]) for goal in rows[sample]) for sample in samples),
    )


def counting(states, is_end):
    """A machine that counts signs, in a round of so many states."""
    return (
        tuple(bool(is_end(state)) for state in range(states)),
        tuple(((state + 1) % states,) * 4 for state in range(states)),
    )


def line(states, is_end):
    """A machine that counts signs up to its last state, and stays there."""
    return (
        tuple(bool(is_end(state)) for state in range(states)),
        tuple((min(state + 1, states - 1),) * 4 for state in range(states)),
    )


NOTHING = ((False,), ((0, 0, 0, 0),))
EVERYTHING = ((True,), ((0, 0, 0, 0),))
NO_SIGNS = ((True, False), ((1, 1, 1, 1), (1, 1, 1, 1)))
SOME_SIGN = ((False, True), ((1, 1, 1, 1), (1, 1, 1, 1)))
ONE_A = ((False, False, True), ((1, 1, 2, 1), (1, 1, 1, 1), (1, 1, 1, 1)))
ONLY_A = ((True, False), ((1, 1, 0, 1), (1, 1, 1, 1)))
ENDS_IN_B = ((False, True), ((0, 0, 0, 1), (0, 0, 0, 1)))
# 0, 1b and a01: three texts, with a state that is never reached and would never end.
THREE_TEXTS = (
    (False, True, False, False, False, False, True),
    ((1, 2, 3, 5), (5, 5, 5, 5), (5, 5, 5, 1), (4, 5, 5, 5), (5, 1, 5, 5), (5, 5, 5, 5), (6, 0, 6, 6)),
)

# The edges: one state, none accepted, all, finitely many, states that are like others or never reached.
EACH_MACHINE = [
    NOTHING,
    EVERYTHING,
    NO_SIGNS,
    SOME_SIGN,
    ONE_A,
    ONLY_A,
    ENDS_IN_B,
    THREE_TEXTS,
    ((False, True), ((0, 0, 0, 0), (0, 0, 0, 0))),
    ((True, False), ((0, 0, 0, 0), (1, 1, 1, 1))),
    ((True, True), ((1, 1, 1, 1), (0, 0, 0, 0))),
    ((False, False, False), ((1, 2, 1, 2), (0, 0, 1, 1), (2, 2, 2, 2))),
    ((True, False, False), ((2, 2, 2, 2), (1, 1, 1, 1), (1, 1, 1, 1))),
    counting(2, lambda state: state == 1),
    counting(6, lambda state: state % 2 == 0),
    counting(40, lambda state: state == 39),
    counting(41, lambda state: state == 2),
    line(5, lambda state: state == 3),
    line(5, lambda state: state < 4),
    line(50, lambda state: state == 2),
]


def some_text(source, long):
    """A text of up to so many signs."""
    return "".join(source.choice(SIGNS) for place in range(source.randint(0, long)))


def some_making(source, parts):
    """A making of so many parts."""
    if parts == 1:
        return ("given", source.randrange(4)) if source.random() < 0.75 else ("text", some_text(source, 4))
    word = source.choice(["turned", "taken", "dropped", "replaced", "then", "then", "then"] if parts > 2 else [
        "turned", "taken", "dropped", "replaced"])
    if word == "then":
        first = source.randint(1, parts - 2)
        return (word, some_making(source, first), some_making(source, parts - 1 - first))
    inner = some_making(source, parts - 1)
    if word == "turned":
        return (word, inner)
    if word == "replaced":
        return (word, inner, source.choice(SIGNS), some_text(source, 4))
    return (word, inner, source.randint(0, 6))


def some_makings(seed, parts, size):
    """So many makings, the same ones for the same seed."""
    source = random.Random(seed)
    return [some_making(source, parts) for number in range(size)]


def slow_givens(making):
    """The numbers of all givens, from left to right."""
    if making[0] == "given":
        return [making[1]]
    return [number for part in making[1:] if isinstance(part, tuple) for number in slow_givens(part)]


def deed_on_text(making, text):
    """What the deed of a making of one makes of a text."""
    if making[0] == "turned":
        return "".join(reversed(text))
    if making[0] == "taken":
        return "".join(sign for place, sign in enumerate(text) if place < making[2])
    if making[0] == "dropped":
        return "".join(sign for place, sign in enumerate(text) if place >= making[2])
    return "".join(making[3] if sign == making[2] else sign for sign in text)


def slow_kind(making, kinds):
    """The set of all texts that a making makes of sets of texts, each given each time any of its set."""
    if making[0] == "given":
        return set(kinds[making[1]])
    if making[0] == "text":
        return {making[1]}
    if making[0] == "then":
        others = slow_kind(making[2], kinds)
        return {one + other for one in slow_kind(making[1], kinds) for other in others}
    return {deed_on_text(making, text) for text in slow_kind(making[1], kinds)}


def slow_value(making, givens):
    """The text that a making makes of givens."""
    (text,) = slow_kind(making, [{given} for given in givens])
    return text


# One making of each word at least, at the edges of its numbers and texts.
EACH_MAKING = [
    ("given", 0),
    ("given", 3),
    ("text", ""),
    ("text", "0"),
    ("text", "ab01"),
    ("then", ("given", 0), ("given", 1)),
    ("then", ("given", 1), ("given", 0)),
    ("then", ("given", 2), ("given", 2)),
    ("then", ("given", 0), ("text", "b")),
    ("then", ("text", "a"), ("text", "a")),
    ("turned", ("given", 1)),
    ("turned", ("then", ("given", 0), ("text", "ab"))),
    ("taken", ("given", 0), 0),
    ("taken", ("given", 0), 6),
    ("taken", ("then", ("given", 0), ("given", 1)), 2),
    ("dropped", ("given", 0), 0),
    ("dropped", ("given", 0), 6),
    ("dropped", ("then", ("given", 0), ("given", 1)), 2),
    ("replaced", ("given", 0), "a", ""),
    ("replaced", ("given", 0), "a", "a"),
    ("replaced", ("given", 0), "a", "b"),
    ("replaced", ("given", 0), "1", "0110"),
    ("replaced", ("then", ("given", 0), ("given", 1)), "b", "ab"),
    ("then", ("taken", ("given", 0), 1), ("dropped", ("given", 0), 1)),
    ("then", ("turned", ("given", 0)), ("given", 0)),
    ("turned", ("dropped", ("turned", ("replaced", ("given", 3), "0", "1")), 3)),
]
