"""Shapes: which things are shapes, and which texts fit them."""

SIGNS = "01ab"
MOST_PARTS = 15
# For each word, how many shapes stand in its tuple.
INNER = {"none": 0, "empty": 0, "signs": 0, "then": 2, "or": 2, "and": 2, "not": 1, "many": 1}


def is_shape(thing):
    """Whether any thing is a shape of at most 15 parts."""
    return has_parts(thing, MOST_PARTS, has_form, inner_shapes)


def has_parts(thing, most, is_part, inner_parts):
    """Whether any thing is put together of so many parts at most, and is_part(part) holds of each.

    inner_parts(part) tells the list of what stands in a part in the stead of others.
    """
    waiting = [thing]
    many = 0
    while waiting:
        part = waiting.pop()
        many += 1
        # Asked at each part: a tuple that holds one thing twice, deep down, has too many parts to count them all.
        if many > most or not is_part(part):
            return False
        waiting.extend(inner_parts(part))
    return True


def has_form(part):
    """Whether a thing is a shape, if all that stands in the stead of its inner shapes are."""
    if not isinstance(part, tuple) or len(part) == 0 or not isinstance(part[0], str):
        return False
    if part[0] == "signs":
        return len(part) == 2 and are_signs(part[1])
    return part[0] in INNER and len(part) == INNER[part[0]] + 1


def are_signs(some):
    """Whether a thing is a rising text of one sign or more."""
    return isinstance(some, str) and some != "" and some == signs_in(some)


def signs_in(text):
    """A rising text of all signs that are in the text."""
    return "".join([sign for sign in SIGNS if sign in text])


def inner_shapes(shape):
    """The shapes that stand in the tuple of a shape."""
    if INNER[shape[0]] == 0:
        return []
    return list(shape[1:])


def rows_of(shape):
    """All parts of a shape as rows, as rows_by tells them."""
    return rows_by(shape, inner_shapes)


def rows_by(whole, inner_parts):
    """All parts of a whole as rows: its tuple, with the numbers of the rows of its inner parts in their stead.

    Each row stands behind those that it names, like parts are one row, and the whole itself is the last one.
    inner_parts(part) tells the list of the parts that stand in the tuple of a part, straight behind its word.
    """
    rows = []
    numbers = {}
    finished = []
    # A list of what is still to do, for what is told may be deeper than calls may be.
    waiting = [(whole, False)]
    while waiting:
        part, inner_finished = waiting.pop()
        inner = inner_parts(part)
        if inner and not inner_finished:
            waiting.append((part, True))
            waiting.extend([(one, False) for one in reversed(inner)])
            continue
        first = len(finished) - len(inner)
        row = part[:1] + tuple(finished[first:]) + part[1 + len(inner):]
        del finished[first:]
        if row not in numbers:
            numbers[row] = len(rows)
            rows.append(row)
        finished.append(numbers[row])
    return rows


def ends_of(shape, text):
    """For each place of the text the marks of all places up to which the signs from there fit the shape.

    Marks are a whole number: its bit of a place's number is 1 where that place is marked.
    """
    tables = []
    for row in rows_of(shape):
        tables.append(row_ends(row, tables, text))
    return tables[-1]


def row_ends(row, tables, text):
    """What ends_of tells, for one row, from the tables of the rows ahead of it."""
    word = row[0]
    if word == "none":
        return [0] * (len(text) + 1)
    if word == "empty":
        return [1 << begin for begin in range(len(text) + 1)]
    if word == "signs":
        return [2 << begin if sign in row[1] else 0 for begin, sign in enumerate(text)] + [0]
    one = tables[row[1]]
    if word == "not":
        return not_ends(one)
    if word == "many":
        return many_ends(one)
    other = tables[row[2]]
    if word == "then":
        return [reached_from(marks, other) for marks in one]
    if word == "or":
        return [marks | others for marks, others in zip(one, other)]
    return [marks & others for marks, others in zip(one, other)]


def not_ends(one):
    """For each place the marks of all places from there on that have no mark."""
    past = 1 << len(one)
    return [(past - (1 << begin)) ^ marks for begin, marks in enumerate(one)]


def many_ends(one):
    """For each place the marks of all places that any number of steps leads to."""
    ends = [0] * len(one)
    for begin in reversed(range(len(one))):
        here = 1 << begin
        # A step that stays where it is leads nowhere new, and would ask for the marks that are sought.
        ends[begin] = here | reached_from(one[begin] & ~here, ends)
    return ends


def reached_from(marks, ends):
    """The marks of all ends of the places that are marked."""
    reached = 0
    while marks > 0:
        place = marks.bit_length() - 1
        reached |= ends[place]
        marks -= 1 << place
    return reached


def fits(shape, text):
    """Whether the text fits the shape."""
    return (ends_of(shape, text)[0] >> len(text)) & 1 == 1
