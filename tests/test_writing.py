"""[10.1] and (h) of [0.2]: shapes written and read."""

import itertools
import unittest

from tests.slow import ALL, ANY_SIGN, EACH_MACHINE, EACH_WORD, EMPTY, NONE, both, either, many, other_than, signs
from tests.slow import some_shapes, then
from textkinds.drawing import shape_of
from textkinds.errors import KindError, NoWriting
from textkinds.reading import read
from textkinds.shapes import is_shape
from textkinds.writing import written

A = signs("a")
B = signs("b")
BY_HAND = [
    (NONE, "{}"),
    (EMPTY, "()"),
    (signs("0"), "0"),
    (signs("1"), "1"),
    (A, "a"),
    (B, "b"),
    (signs("01"), "[01]"),
    (signs("ab"), "[ab]"),
    (signs("0ab"), "[0ab]"),
    (ANY_SIGN, "[01ab]"),
    (other_than(A), "!a"),
    (many(A), "*a"),
    (ALL, "!{}"),
    (many(EMPTY), "*()"),
    (then(A, B), "(a b)"),
    (either(A, B), "(a|b)"),
    (both(A, B), "(a&b)"),
    (then(EMPTY, EMPTY), "(() ())"),
    (either(NONE, signs("01")), "({}|[01])"),
    (many(other_than(many(A))), "*!*a"),
    (many(then(A, B)), "*(a b)"),
    (then(many(A), B), "(*a b)"),
    (then(then(A, B), A), "((a b) a)"),
    (then(A, then(B, A)), "(a (b a))"),
    (then(many(signs("01")), either(A, other_than(B))), "(*[01] (a|!b))"),
    (both(other_than(either(A, EMPTY)), many(ANY_SIGN)), "(!(a|())&*[01ab])"),
]
# Texts that are almost a writing.
NO_WRITINGS = """
    c 2 A { } ( ) [ ] {{}} {} {}{} ()() aa ab a) (a (a) (a| (a|) (|a) (a|b (a|b)) (a||b) (a|b|a) (a|b&a) [] [a] [0] [aa] [ba] [10]
    [0a1] [ab [abc] [0b1a] [ab]] [[ab]] [(ab)] [a|b] ! * !! ** a! a* a|b a&b !(a) (!a) (*a) !*! ((a|b) (a|b)|) ((a|b)) (a!b) (a*b)
    (a+b) (a,b) {a} {()} ({}) (()) ([]) ([a]|b) (a|[b]) (a|b)* (a|b)! a|(b) not(a) none empty signs ("none",) () {}a a{} a() ()a [01]a
    01 0[01] [01][ab] (01) (0|1a) (a~b) ~ ~a $ a$ {}) ({} (a|b]) [a|b) [01) (01] {) (} !{ *( )( ][ }{ (a.b) a. .
""".split()
NO_WRITINGS = [text for text in NO_WRITINGS if text not in ("{}", "()", "!*a")]
NO_WRITINGS += [
    "", " ", "  ", " a", "a ", " {}", "{} ", "{ }", "( )", "[ ]", "a b", "(a  b)", "( a b)", "(a b )", "(a b) ", " (a b)", "(a )", "( b)",
    "(a | b)", "(a |b)", "(a| b)", "(a & b)", "! a", "* a", "[0 1]", "[ 01]", "[01 ]", "(a b b)", "(a b|b)", "(ab)", "(a b", "a b)", "( )",
    "(*[01] (a|!b)", "(*[01] (a|!b)))", "(*[10] (a|!b))", "(*[01](a|!b))", "(*[01]  (a|!b))", "*[01] (a|!b)", "'a'", "\"a\"", "a\\", "(a\tb)",
    "(a\nb)", "a\n", "\n", "(a b)\n",
]


def chain(parts, word):
    """A shape of so many parts, one within the other."""
    shape = A
    for number in range(parts - 1):
        shape = (word, shape)
    return shape


class Written(unittest.TestCase):

    def test_by_hand(self):
        for shape, text in BY_HAND:
            with self.subTest(text=text):
                self.assertEqual(written(shape), text)

    def test_shapes_of_many_parts(self):
        self.assertEqual(written(chain(16, "not")), "!" * 15 + "a")
        self.assertEqual(written(chain(3001, "many")), "*" * 3000 + "a")
        row = A
        for number in range(2000):
            row = then(row, B)
        self.assertEqual(written(row), "(" * 2000 + "a" + " b)" * 2000)
        row = A
        for number in range(2000):
            row = either(B, row)
        self.assertEqual(written(row), "(b|" * 2000 + "a" + ")" * 2000)

    def test_unlike_shapes_have_unlike_texts(self):
        shapes = {shape: True for shape in EACH_WORD + some_shapes(151, 3, 400) + some_shapes(152, 5, 400)}
        self.assertEqual(len({written(shape) for shape in shapes}), len(shapes))


class Read(unittest.TestCase):

    def expect_refused(self, text):
        with self.subTest(text=text[:80]):
            with self.assertRaises(NoWriting):
                read(text)
            with self.assertRaises(KindError):
                read(text)

    def test_by_hand(self):
        for shape, text in BY_HAND:
            with self.subTest(text=text):
                self.assertEqual(read(text), shape)
                self.assertIs(read(text).__class__, tuple)

    def test_what_is_written_reads_back(self):
        for size in range(1, 16):
            for shape in some_shapes(153 + size, size, 60) + EACH_WORD:
                self.assertEqual(read(written(shape)), shape)
                self.assertIs(is_shape(read(written(shape))), True)

    def test_fifteen_parts_and_sixteen(self):
        for word in ["not", "many"]:
            self.assertEqual(read(written(chain(15, word))), chain(15, word))
            for parts in [16, 17, 1000, 100000]:
                self.expect_refused(("!" if word == "not" else "*") * (parts - 1) + "a")
        for shape in some_shapes(170, 16, 100) + some_shapes(171, 17, 50) + some_shapes(172, 40, 50):
            self.expect_refused(written(shape))
        for shape in some_shapes(173, 15, 100):
            self.assertEqual(read(written(shape)), shape)
            for longer in [other_than(shape), many(shape), then(shape, A), either(EMPTY, shape), both(shape, NONE)]:
                self.expect_refused(written(longer))
        eight = then(then(then(A, A), then(A, A)), then(then(A, A), then(A, A)))
        self.assertEqual(read(written(eight)), eight)
        self.expect_refused(written(many(eight)))

    def test_no_writings(self):
        for text in NO_WRITINGS:
            self.expect_refused(text)

    def test_long_texts(self):
        for text in ["(" * 100000, ")" * 100000, "(a|" * 100000, "[" * 100000, "[" + "01" * 50000 + "]", "a" * 100000, "{}" * 9999]:
            self.expect_refused(text)

    def test_all_short_texts(self):
        shapes = {written(shape): shape for shape in all_small_shapes()}
        seen = 0
        for size in range(6):
            for text in map("".join, itertools.product("01a{}()[]!*|& ", repeat=size)):
                if text in shapes:
                    self.assertEqual(read(text), shapes[text])
                    seen += 1
                else:
                    with self.assertRaises(NoWriting):
                        read(text)
        self.assertEqual(seen, len([text for text in shapes if len(text) <= 5]))

    def test_texts_with_one_sign_more_or_less_or_another(self):
        for shape in EACH_WORD + some_shapes(174, 6, 20):
            text = written(shape)
            for place in range(len(text) + 1):
                others = [text[:place] + sign + text[place + more:] for sign in "0b{}()[]!*|& ~" for more in (0, 1)]
                for other in others + [text[:place] + text[place + 1:]]:
                    self.expect_read_or_refused(other)

    def expect_read_or_refused(self, text):
        """What is read must be written just so; what is refused may have no other reading."""
        try:
            shape = read(text)
        except NoWriting:
            return
        self.assertEqual(written(shape), text)
        self.assertIs(is_shape(shape), True)

    def test_shapes_of_machines(self):
        for machine in EACH_MACHINE[:14]:
            shape = shape_of(machine)
            if is_shape(shape):
                self.assertEqual(read(written(shape)), shape)
            else:
                self.expect_refused(written(shape))


def all_small_shapes():
    """All shapes over the signs 0, 1 and a whose texts have at most five signs, and some more."""
    ones = [NONE, EMPTY] + [signs(some) for some in ["0", "1", "a", "01", "0a", "1a"]]
    shapes = ones + [signs("01a")]
    level = list(shapes)
    for number in range(4):
        level = [(word, shape) for word in ("not", "many") for shape in level]
        shapes += level
    return shapes + [(word, one, other) for word in ("then", "or", "and") for one in ones for other in ones]


if __name__ == "__main__":
    unittest.main()
