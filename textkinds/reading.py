"""Texts read as the shapes that they write."""

from textkinds.errors import NoWriting
from textkinds.shapes import MOST_PARTS, are_signs

# For each sign between two shapes, and for each ahead of one, the word of the shape that it writes.
WORDS_BETWEEN = {" ": "then", "|": "or", "&": "and"}
WORDS_AHEAD = {"!": "not", "*": "many"}


class Reader:
    """A text, up to where it is read, and how many parts the shape may still have."""

    def __init__(self, text):
        self.text = text
        self.place = 0
        # So calls within calls are few, too, however deep the text goes.
        self.parts_left = MOST_PARTS

    def sign_here(self):
        """The sign that comes next; the empty text at the end."""
        return self.text[self.place:self.place + 1]

    def take_one_of(self, some):
        """Goes on behind the next sign, and tells it; refuses one that is not among some."""
        sign = self.sign_here()
        if sign == "" or sign not in some:
            raise NoWriting(f"no shape is written so at place {self.place}")
        self.place += 1
        return sign

    def read_shape(self):
        """Goes on behind the shape that comes next, and tells it."""
        if self.parts_left == 0:
            raise NoWriting("the shape has too many parts")
        self.parts_left -= 1
        sign = self.take_one_of("{([!*01ab")
        if sign in WORDS_AHEAD:
            return WORDS_AHEAD[sign], self.read_shape()
        if sign == "{":
            self.take_one_of("}")
            return ("none",)
        if sign == "[":
            return self.read_signs()
        if sign == "(":
            return self.read_in_brackets()
        return "signs", sign

    def read_signs(self):
        """Goes on behind several signs and their bracket, and tells their shape."""
        end = self.text.find("]", self.place)
        some = self.text[self.place:max(end, self.place)]
        if len(some) < 2 or not are_signs(some):
            raise NoWriting(f"no several signs are written so at place {self.place}")
        self.place = end + 1
        return "signs", some

    def read_in_brackets(self):
        """Goes on behind the bracket that ends the empty shape, or one of two shapes, and tells it."""
        if self.sign_here() == ")":
            self.place += 1
            return ("empty",)
        one = self.read_shape()
        word = WORDS_BETWEEN[self.take_one_of(" |&")]
        other = self.read_shape()
        self.take_one_of(")")
        return word, one, other


def read(text):
    """The shape of at most 15 parts of which the text is the writing."""
    reader = Reader(text)
    shape = reader.read_shape()
    if reader.sign_here() != "":
        raise NoWriting(f"a shape is at its end at place {reader.place}")
    return shape
