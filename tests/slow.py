"""What the document says, reckoned slowly and in another way: by sets of all short texts."""

import itertools
import random

SIGNS = "01ab"
NONE = ("none",)
EMPTY = ("empty",)
ALL = ("not", NONE)
ANY_SIGN = ("signs", SIGNS)


def signs(some):
    return ("signs", some)


def then(one, other):
    return ("then", one, other)


def either(one, other):
    return ("or", one, other)


def both(one, other):
    return ("and", one, other)


def other_than(one):
    return ("not", one)


def many(one):
    return ("many", one)


def texts_up_to(long):
    """All texts up to a length, in the document's order."""
    return ["".join(text) for size in range(long + 1) for text in itertools.product(SIGNS, repeat=size)]


def behind(some, others, long):
    return {one + other for one in some for other in others if len(one) + len(other) <= long}


def fitting(shape, long):
    """The set of all texts up to a length that fit the shape."""
    word = shape[0]
    if word == "none":
        return set()
    if word == "empty":
        return {""}
    if word == "signs":
        return {sign for sign in shape[1] if long > 0}
    one = fitting(shape[1], long)
    if word == "not":
        return set(texts_up_to(long)) - one
    if word == "many":
        told = {""}
        while not behind(told, one, long) <= told:
            told |= behind(told, one, long)
        return told
    other = fitting(shape[2], long)
    if word == "then":
        return behind(one, other, long)
    return one | other if word == "or" else one & other


def is_made_of_shapes(thing):
    """Whether a thing is a shape of any number of parts."""
    sizes = {"none": 1, "empty": 1, "signs": 2, "then": 3, "or": 3, "and": 3, "not": 2, "many": 2}
    if not isinstance(thing, tuple) or sizes.get(thing[0]) != len(thing):
        return False
    if thing[0] == "signs":
        return thing[1] != "" and list(thing[1]) == sorted(set(thing[1]) & set(SIGNS))
    return all(is_made_of_shapes(part) for part in thing[1:])


def count_parts(shape):
    return 1 + sum(count_parts(part) for part in shape[1:] if isinstance(part, tuple))


def some_shape(source, parts):
    """A shape of so many parts."""
    if parts == 1:
        some = "".join(sign for sign in SIGNS if source.random() < 0.4)
        return source.choice([NONE, EMPTY, signs(some or "a"), signs(some or "01"), signs(some or "b")])
    if parts == 2 or source.random() < 0.4:
        return (source.choice(["not", "many"]), some_shape(source, parts - 1))
    first = source.randint(1, parts - 2)
    word = source.choice(["then", "then", "or", "and"])
    return (word, some_shape(source, first), some_shape(source, parts - 1 - first))


def some_shapes(seed, parts, size):
    """So many shapes, the same ones for the same seed."""
    source = random.Random(seed)
    return [some_shape(source, parts) for number in range(size)]


# One shape of each word at least, among them those in which not and and stand within then and many.
EACH_WORD = [
    NONE,
    EMPTY,
    ALL,
    signs("0"),
    signs("1"),
    signs("a"),
    signs("b"),
    signs("0b"),
    ANY_SIGN,
    then(signs("0"), signs("1")),
    then(many(signs("a")), signs("ab")),
    then(NONE, signs("0")),
    then(signs("0"), NONE),
    then(EMPTY, signs("0")),
    then(signs("0"), EMPTY),
    then(other_than(signs("0")), signs("1")),
    then(signs("0"), other_than(then(ANY_SIGN, ANY_SIGN))),
    then(both(many(signs("01")), ANY_SIGN), many(signs("b"))),
    either(signs("0"), then(signs("0"), signs("a"))),
    either(EMPTY, signs("1")),
    both(signs("01"), signs("1a")),
    both(many(signs("0")), many(signs("1"))),
    both(other_than(EMPTY), many(then(ANY_SIGN, ANY_SIGN))),
    other_than(EMPTY),
    other_than(many(signs("0a"))),
    other_than(then(ALL, then(signs("a"), ALL))),
    other_than(other_than(signs("1"))),
    many(NONE),
    many(EMPTY),
    many(many(signs("0"))),
    many(either(EMPTY, then(signs("a"), signs("b")))),
    many(other_than(signs("0"))),
    many(other_than(then(signs("01"), ALL))),
    many(both(then(ANY_SIGN, ANY_SIGN), other_than(then(signs("0"), ALL)))),
    many(then(signs("0"), many(signs("1")))),
]
