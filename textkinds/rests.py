"""What is left of a shape behind a sign, and where in a text a shape fits."""

from textkinds.building import lost_state, row_machine
from textkinds.errors import NoSign
from textkinds.shapes import SIGNS, ends_of, inner_shapes, row_ends, rows_of, signs_in

# The numbers that three shapes have among all parts: no text, the empty one, all texts.
NONE = 0
EMPTY = 1
ALL = 2


class Parts:
    """Shapes by numbers, with like ones by one number, and each behind those that stand in it.

    Rows are those of rows_of, but or and and have a rising tuple of two numbers or more. What is put
    together is made plainer on the way; else rests of rests would grow without end.
    """

    def __init__(self):
        self.rows = []
        self.numbers = {}
        self.empty_fits = []
        for row in [("none",), ("empty",), ("not", NONE)]:
            self.number_of(row)

    def number_of(self, row):
        """The number of a row, a new one if it was not there."""
        if row not in self.numbers:
            self.numbers[row] = len(self.rows)
            self.rows.append(row)
            self.empty_fits.append(empty_fits_row(row, self.empty_fits))
        return self.numbers[row]

    def inner_of(self, word, number):
        """The numbers that such a shape is put together of, by this word."""
        row = self.rows[number]
        return list(row[1]) if row[0] == word else [number]

    def several(self, word, some, needless, ruling):
        """All of some shapes by or, or by and: the needless one does nothing there, the ruling one all."""
        inner = sorted({part for number in some for part in self.inner_of(word, number) if part != needless})
        if ruling in inner:
            return ruling
        if len(inner) > 1:
            return self.number_of((word, tuple(inner)))
        return inner[0] if inner else needless

    def any_of(self, some):
        """What fits one of some shapes."""
        return self.several("or", some, NONE, ALL)

    def all_of(self, some):
        """What fits all of some shapes."""
        return self.several("and", some, ALL, NONE)

    def one_then(self, one, other):
        """What fits the one, and behind it the other."""
        if NONE in (one, other):
            return NONE
        if one == EMPTY:
            return other
        if other == EMPTY:
            return one
        return self.number_of(("then", one, other))

    def each_then(self, one, other):
        """The same, with the other behind each shape of an or: so fewer unlike shapes come of rests of rests."""
        return self.any_of([self.one_then(number, other) for number in self.inner_of("or", one)])

    def not_of(self, one):
        """What does not fit."""
        row = self.rows[one]
        return row[1] if row[0] == "not" else self.number_of(("not", one))

    def many_of(self, one):
        """Any number of texts that fit."""
        if one in (NONE, EMPTY):
            return EMPTY
        if one == ALL or self.rows[one][0] == "many":
            return one
        return self.number_of(("many", one))

    def take_in(self, shape):
        """The number of a shape that is handed in."""
        taken = []
        for row in rows_of(shape):
            taken.append(self.taken_row(row, taken))
        return taken[-1]

    def taken_row(self, row, taken):
        """The number of a row of rows_of, from those of the rows ahead of it."""
        word = row[0]
        if word in ("none", "empty", "signs"):
            return self.number_of(row)
        inner = [taken[place] for place in row[1:]]
        if word == "then":
            return self.one_then(inner[0], inner[1])
        if word == "or":
            return self.any_of(inner)
        if word == "and":
            return self.all_of(inner)
        if word == "not":
            return self.not_of(inner[0])
        return self.many_of(inner[0])

    def rest_of(self, number, sign):
        """The number of the rest of a shape behind a sign."""
        rests = []
        for row in self.rows[:number + 1]:
            rests.append(self.rest_of_row(row, sign, rests))
        return rests[number]

    def rest_of_row(self, row, sign, rests):
        """The number of the rest of a row, from those of the rows ahead of it."""
        word = row[0]
        if word == "signs":
            return EMPTY if sign in row[1] else NONE
        if word == "or":
            return self.any_of([rests[number] for number in row[1]])
        if word == "and":
            return self.all_of([rests[number] for number in row[1]])
        if word == "not":
            return self.not_of(rests[row[1]])
        if word == "many":
            return self.each_then(rests[row[1]], self.many_of(row[1]))
        if word == "then":
            within_one = self.each_then(rests[row[1]], row[2])
            behind_it = rests[row[2]] if self.empty_fits[row[1]] else NONE
            return self.any_of([within_one, behind_it])
        return NONE

    def told_shape(self, number):
        """The shape that has this number."""
        shapes = []
        for row in self.rows[:number + 1]:
            shapes.append(row_shape(row, shapes))
        return shapes[number]


def empty_fits_row(row, empty_fits):
    """Whether the empty text fits a row, from what is known of the rows ahead of it."""
    word = row[0]
    if word == "or":
        return any([empty_fits[number] for number in row[1]])
    if word == "and":
        return all([empty_fits[number] for number in row[1]])
    if word == "not":
        return not empty_fits[row[1]]
    if word == "then":
        return empty_fits[row[1]] and empty_fits[row[2]]
    return word in ("empty", "many")


def row_shape(row, shapes):
    """The shape of a row, from those of the rows ahead of it."""
    word = row[0]
    if word in ("none", "empty", "signs"):
        return row
    if word in ("or", "and"):
        return nested(word, [shapes[number] for number in row[1]])
    return (word,) + tuple([shapes[number] for number in row[1:]])


def nested(word, some):
    """All of some shapes by a word that takes two."""
    whole = some[-1]
    for one in reversed(some[:-1]):
        whole = (word, one, whole)
    return whole


def rest(shape, sign):
    """A shape that just those texts fit that fit the shape with the sign ahead of them."""
    if not isinstance(sign, str) or len(sign) != 1 or sign not in SIGNS:
        raise NoSign("a sign is one of 0, 1, a and b")
    parts = Parts()
    return parts.told_shape(parts.rest_of(parts.take_in(shape), sign))


def first_signs(shape):
    """A rising text of all signs with which some text that fits begins."""
    rows = rows_of(shape)
    needed = machines_needed(rows)
    machines = []
    empties = []
    firsts = []
    for number, row in enumerate(rows):
        machines.append(row_machine(row, machines) if needed[number] else None)
        empties.append(row_ends(row, empties, ""))
        if row[0] in ("and", "not"):
            firsts.append(machine_firsts(machines[number]))
        else:
            firsts.append(row_firsts(row, firsts, empties))
    return firsts[-1]


def machines_needed(rows):
    """For each row whether it is an and or a not, or stands in one.

    What fits these is seen by a machine alone. No others are built, for told shapes may have very many parts.
    """
    needed = [row[0] in ("and", "not") for row in rows]
    for number in reversed(range(len(rows))):
        if needed[number]:
            for inner in inner_shapes(rows[number]):
                needed[inner] = True
    return needed


def machine_firsts(machine):
    """The first signs of the texts that a least machine accepts."""
    lost = lost_state(machine)
    return "".join([sign for sign, goal in zip(SIGNS, machine[1][0]) if goal != lost])


def row_firsts(row, firsts, empties):
    """The first signs of a row that is neither and nor not, from what is known of the rows ahead of it."""
    word = row[0]
    if word == "signs":
        return row[1]
    if word == "many":
        return firsts[row[1]]
    if word == "or":
        return signs_in(firsts[row[1]] + firsts[row[2]])
    if word == "then":
        one, other = row[1], row[2]
        if firsts[other] == "" and empties[other] == [0]:
            return ""
        return firsts[one] if empties[one] == [0] else signs_in(firsts[one] + firsts[other])
    return ""


def longest_beginning(shape, text):
    """The greatest number of first signs of the text that fit; None, where no number does."""
    marks = ends_of(shape, text)[0]
    return marks.bit_length() - 1 if marks > 0 else None


def stretches(shape, text):
    """A rising list of all (begin, end) between which the signs of the text fit."""
    told = []
    for begin, marks in enumerate(ends_of(shape, text)):
        told.extend([(begin, end) for end in range(begin, len(text) + 1) if (marks >> end) & 1 == 1])
    return told


def cut_up(shape, text):
    """The text in pieces, each as long as can be; None, where that does not come to its end."""
    ends = ends_of(shape, text)
    pieces = []
    begin = 0
    while begin < len(text):
        end = ends[begin].bit_length() - 1
        if end <= begin:
            return None
        pieces.append(text[begin:end])
        begin = end
    return pieces
