"""[1.1] and [1.2]: the signs, what a shape is, and what fits it."""

import unittest

from tests.slow import ALL, ANY_SIGN, EACH_WORD, EMPTY, NONE, SIGNS
from tests.slow import both, either, fitting, many, other_than, signs, some_shapes, texts_up_to, then
from textkinds.shapes import fits, is_shape

A = signs("a")
NO_SHAPES = [None, True, False, 0, 1, 15, -1, "", "none", "a", "signs", (), [], [NONE], (NONE,), b"none", ((),), ("",)]


def chain(parts):
    """A shape of so many parts, one within the other."""
    shape = NONE
    for number in range(parts - 1):
        shape = other_than(shape)
    return shape


class Signs(unittest.TestCase):

    def test_all_rising_texts_of_signs(self):
        for number in range(1, 16):
            some = "".join(sign for place, sign in enumerate(SIGNS) if number >> place & 1)
            with self.subTest(some=some):
                self.assertIs(is_shape(("signs", some)), True)

    def test_spoilt_texts_of_signs(self):
        spoilt = ["", "10", "a0", "ba", "b1", "0ab1", "00", "aab", "0aa", "c", "2", "0c", "A", " ", "0 ", "01abc", "/", "\n"]
        for some in spoilt + ["0\u0661", "\u0660"]:
            with self.subTest(some=some):
                self.assertIs(is_shape(("signs", some)), False)

    def test_no_texts_in_the_stead_of_signs(self):
        for some in [None, True, False, 0, 1, ["0"], ("0",), ["0", "1"], (), [], b"0", NONE, ("signs", "0")]:
            with self.subTest(some=some):
                self.assertIs(is_shape(("signs", some)), False)


class IsShape(unittest.TestCase):

    def test_each_of_the_eight(self):
        eight = [NONE, EMPTY, A, then(A, NONE), either(A, EMPTY), both(EMPTY, A), other_than(A), many(A)]
        for shape in eight + EACH_WORD:
            with self.subTest(shape=shape):
                self.assertIs(is_shape(shape), True)

    def test_things_that_are_no_shapes(self):
        for thing in NO_SHAPES:
            with self.subTest(thing=thing):
                self.assertIs(is_shape(thing), False)

    def test_lists_in_the_stead_of_tuples(self):
        for shape in [NONE, EMPTY, A, then(A, A), either(A, A), both(A, A), other_than(A), many(A)]:
            with self.subTest(shape=shape):
                self.assertIs(is_shape(list(shape)), False)
                self.assertIs(is_shape(many(list(shape))), False)

    def test_a_part_too_many(self):
        for shape in [NONE, EMPTY, A, then(A, A), either(A, A), both(A, A), other_than(A), many(A)]:
            for more in [A, "0", None]:
                with self.subTest(shape=shape, more=more):
                    self.assertIs(is_shape(shape + (more,)), False)

    def test_a_part_too_few(self):
        for shape in [NONE, EMPTY, A, then(A, A), either(A, A), both(A, A), other_than(A), many(A)]:
            with self.subTest(shape=shape):
                self.assertIs(is_shape(shape[:-1]), False)

    def test_unknown_words(self):
        for word in ["None", "some", "sign", "", "nots", "given", "text", "turned", "a", " none", "OR"]:
            for parts in [(), (A,), (A, A), ("0",)]:
                with self.subTest(word=word, parts=parts):
                    self.assertIs(is_shape((word,) + parts), False)

    def test_words_that_are_no_texts(self):
        for word in [None, True, 0, ["none"], ("none",), b"none"]:
            for parts in [(), (A,), (A, A)]:
                with self.subTest(word=word, parts=parts):
                    self.assertIs(is_shape((word,) + parts), False)

    def test_no_shape_in_the_stead_of_a_part(self):
        for thing in NO_SHAPES:
            spoilt = [many(thing), other_than(thing)]
            for word in ["then", "or", "and"]:
                spoilt += [(word, A, thing), (word, thing, A), (word, thing, thing)]
            for shape in spoilt:
                with self.subTest(shape=shape):
                    self.assertIs(is_shape(shape), False)

    def test_spoilt_deep_down(self):
        for thing in NO_SHAPES:
            with self.subTest(thing=thing):
                self.assertIs(is_shape(then(A, many(either(other_than(both(A, thing)), EMPTY)))), False)

    def test_fifteen_parts_and_sixteen_in_a_row(self):
        self.assertIs(is_shape(chain(14)), True)
        self.assertIs(is_shape(chain(15)), True)
        self.assertIs(is_shape(chain(16)), False)
        self.assertIs(is_shape(chain(21)), False)

    def test_fifteen_parts_and_more_in_a_tree(self):
        four = then(then(A, A), then(A, A))
        self.assertIs(is_shape(either(four, four)), True)
        self.assertIs(is_shape(many(either(four, four))), False)
        self.assertIs(is_shape(either(four, either(A, four))), False)
        self.assertIs(is_shape(either(then(A, then(A, A)), then(four, EMPTY))), True)

    def test_fifteen_parts_of_any_shape(self):
        for shape in some_shapes(1, 15, 200):
            with self.subTest(shape=shape):
                self.assertIs(is_shape(shape), True)
                self.assertIs(is_shape(other_than(shape)), False)

    def test_things_some_twenty_deep(self):
        for begin in [A, None, 7, "a", [], True]:
            wide, pair, nest, lists = begin, begin, begin, begin
            for number in range(22):
                wide = either(wide, wide)
                pair = (pair, pair)
                nest = (nest,)
                lists = [lists, lists]
            for thing in [wide, pair, nest, lists]:
                self.assertIs(is_shape(thing), False)


class Fits(unittest.TestCase):

    def expect(self, shape, right, wrong):
        for text in right:
            with self.subTest(shape=shape, text=text):
                self.assertIs(fits(shape, text), True)
        for text in wrong:
            with self.subTest(shape=shape, text=text):
                self.assertIs(fits(shape, text), False)

    def test_none_and_empty(self):
        self.expect(NONE, [], ["", "0", "ab"])
        self.expect(EMPTY, [""], ["0", "b", "ab"])

    def test_signs(self):
        self.expect(signs("0a"), ["0", "a"], ["", "1", "b", "0a", "00", "a0"])
        self.expect(ANY_SIGN, ["0", "1", "a", "b"], ["", "01", "bb"])

    def test_then(self):
        self.expect(then(signs("01"), signs("ab")), ["0a", "1b"], ["", "0", "a", "a0", "00", "0ab"])
        self.expect(then(many(A), A), ["a", "aaaa"], ["", "ab", "ba"])
        self.expect(then(EMPTY, EMPTY), [""], ["a"])
        self.expect(then(A, NONE), [], ["", "a", "aa"])

    def test_or_and_and(self):
        self.expect(either(signs("0"), then(A, A)), ["0", "aa"], ["", "a", "0aa"])
        self.expect(both(signs("0a"), signs("ab")), ["a"], ["", "0", "b", "aa"])
        self.expect(both(many(A), other_than(A)), ["", "aa", "aaa"], ["a", "b"])

    def test_not(self):
        self.expect(other_than(A), ["", "b", "aa", "ab"], ["a"])
        self.expect(ALL, ["", "0", "ab01"], [])
        self.expect(other_than(EMPTY), ["0", "ba"], [""])

    def test_many(self):
        self.expect(many(then(signs("0"), A)), ["", "0a", "0a0a0a"], ["0", "a", "0a0", "a0"])
        self.expect(many(NONE), [""], ["0", "a"])
        self.expect(many(EMPTY), [""], ["0", "a"])

    def test_many_of_what_the_empty_text_fits(self):
        self.expect(many(either(EMPTY, then(A, A))), ["", "aa", "aaaa"], ["a", "aaa", "b"])
        self.expect(many(many(signs("0"))), ["", "0", "000"], ["1", "01"])
        self.expect(many(other_than(A)), ["", "b", "aa", "aab"], ["a"])

    def test_not_and_and_within_then_and_many(self):
        self.expect(then(other_than(A), signs("b")), ["b", "bb", "aab"], ["", "ab", "a"])
        self.expect(then(A, both(many(A), other_than(EMPTY))), ["aa", "aaa"], ["a", "ab"])
        self.expect(many(both(then(ANY_SIGN, ANY_SIGN), other_than(then(A, A)))), ["", "ab", "abba"], ["aa", "a", "abaa"])
        self.expect(many(other_than(many(A))), ["", "b", "ab", "ba"], ["a", "aa"])

    def test_all_short_texts(self):
        for shape in EACH_WORD + some_shapes(2, 6, 150) + some_shapes(3, 15, 150):
            right = fitting(shape, 3)
            for text in texts_up_to(3):
                self.assertIs(fits(shape, text), text in right, (shape, text))

    def test_shapes_of_more_parts(self):
        for shape in some_shapes(4, 16, 40) + some_shapes(5, 40, 40):
            right = fitting(shape, 3)
            for text in texts_up_to(3):
                self.assertIs(fits(shape, text), text in right, (shape, text))

    def test_very_deep_shapes(self):
        deep = A
        for number in range(2000):
            deep = then(EMPTY, deep)
        self.expect(deep, ["a"], ["", "b", "aa"])

    def test_long_texts(self):
        shape = many(then(signs("01"), many(signs("ab"))))
        self.expect(shape, ["0ab1b" * 60], ["a" + "0ab1b" * 60])
        self.expect(other_than(shape), ["a" + "0ab1b" * 60], ["0ab1b" * 60])


if __name__ == "__main__":
    unittest.main()
