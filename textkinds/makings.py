"""Makings: which things are makings, and what they make of given texts and of kinds of texts."""

from textkinds.building import machine_by, narrowed, then_web, turned_web, web_of
from textkinds.deeds import dropped_web, machine_of, replaced_web, taken_web, text_dropped, text_replaced, text_taken
from textkinds.errors import NoGiven
from textkinds.machines import is_below
from textkinds.shapes import SIGNS, has_parts, rows_by

MOST_MAKINGS = 12
MOST_GIVENS = 4
MOST_DEED_SIGNS = 6
MOST_TEXT_SIGNS = 4
# For each word how long its tuple is, and how many makings stand in it, straight behind the word.
LENGTHS = {"given": 2, "text": 2, "then": 3, "turned": 2, "taken": 3, "dropped": 3, "replaced": 4}
INNER_MAKINGS = {"given": 0, "text": 0, "then": 2, "turned": 1, "taken": 1, "dropped": 1, "replaced": 1}


def is_making(thing):
    """Whether any thing is a making of at most 12 parts."""
    return has_parts(thing, MOST_MAKINGS, has_making_form, inner_makings)


def has_making_form(part):
    """Whether a thing is a making, if all that stands in the stead of its inner makings are."""
    if not isinstance(part, tuple) or len(part) == 0 or not isinstance(part[0], str):
        return False
    word = part[0]
    if len(part) != LENGTHS.get(word):
        return False
    if word == "given":
        return is_below(part[1], MOST_GIVENS)
    if word == "text":
        return is_short_text(part[1])
    if word in ("taken", "dropped"):
        return is_below(part[2], MOST_DEED_SIGNS + 1)
    if word == "replaced":
        return is_short_text(part[2]) and len(part[2]) == 1 and is_short_text(part[3])
    return True


def is_short_text(thing):
    """Whether a thing is a text of up to 4 signs."""
    return isinstance(thing, str) and len(thing) <= MOST_TEXT_SIGNS and all([sign in SIGNS for sign in thing])


def inner_makings(making):
    """The list of the makings that stand in the tuple of a making."""
    return list(making[1:1 + INNER_MAKINGS[making[0]]])


def givens_of(making):
    """The list of the numbers of all givens in a making, from left to right, as often as they are in it."""
    told = []
    waiting = [making]
    while waiting:
        part = waiting.pop()
        if part[0] == "given":
            told.append(part[1])
        waiting.extend(inner_makings(part)[::-1])
    return told


def is_single(making):
    """Whether no given is in the making twice."""
    numbers = givens_of(making)
    return len(set(numbers)) == len(numbers)


def need_givens(making, many):
    """Refuses a making with a given in it that is none of so many."""
    if not all([0 <= number < many for number in givens_of(making)]):
        raise NoGiven("a given of the making is not there")


def value(making, givens):
    """The text that the making makes of given texts, a list."""
    need_givens(making, len(givens))
    texts = []
    for row in making_rows(making):
        texts.append(row_text(row, texts, givens))
    return texts[-1]


def making_rows(making):
    """All parts of a making as rows, as rows_by tells them."""
    return rows_by(making, inner_makings)


def row_text(row, texts, givens):
    """The text that a row makes, from those of the rows ahead of it."""
    word = row[0]
    if word == "given":
        return givens[row[1]]
    if word == "text":
        return row[1]
    one = texts[row[1]]
    if word == "then":
        return one + texts[row[2]]
    if word == "turned":
        return one[::-1]
    if word == "taken":
        return text_taken(one, row[2])
    if word == "dropped":
        return text_dropped(one, row[2])
    return text_replaced(one, row[2], row[3])


def kind_of(making, machines):
    """The machine of all texts that the making makes of texts that a list of machines accepts."""
    need_givens(making, len(machines))
    return machine_by(row_webs(making_rows(making), machines)[-1])


def row_webs(rows, machines):
    """For each row of a making the web of all texts that it makes."""
    webs = []
    for row in rows:
        webs.append(narrowed(row_web(row, webs, machines)))
    return webs


def row_web(row, webs, machines):
    """The web of all texts that a row makes, from those of the rows ahead of it."""
    word = row[0]
    if word == "given":
        return web_of(machines[row[1]])
    if word == "text":
        return web_of(machine_of([row[1]]))
    one = webs[row[1]]
    if word == "then":
        return then_web(one, webs[row[2]])
    if word == "turned":
        return turned_web(one)
    if word == "taken":
        return taken_web(one, row[2])
    if word == "dropped":
        return dropped_web(one, row[2])
    return replaced_web(one, row[2], row[3])
