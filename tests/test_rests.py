"""[1.3], [1.4] and what [0.3] says of them: rests, first signs, and where in a text a shape fits."""

import unittest

from tests.slow import ALL, ANY_SIGN, EACH_WORD, EMPTY, NONE, SIGNS
from tests.slow import both, count_parts, either, fitting, is_made_of_shapes, many, other_than, signs, some_shapes
from tests.slow import texts_up_to, then
from textkinds.errors import KindError, NoSign
from textkinds.rests import cut_up, first_signs, longest_beginning, rest, stretches
from textkinds.shapes import fits

A = signs("a")
B = signs("b")
SHAPES = EACH_WORD + some_shapes(11, 5, 80) + some_shapes(12, 15, 80) + some_shapes(13, 30, 30)


class Rest(unittest.TestCase):

    def test_just_the_right_texts_fit(self):
        for shape in SHAPES:
            right = fitting(shape, 3)
            for sign in SIGNS:
                left = rest(shape, sign)
                self.assertTrue(is_made_of_shapes(left), (shape, sign, left))
                expected = {text[1:] for text in right if text[:1] == sign}
                self.assertEqual(fitting(left, 2), expected, (shape, sign, left))

    def test_each_word_by_hand(self):
        for shape, sign, right, wrong in [
            (NONE, "0", [], ["", "0"]),
            (EMPTY, "1", [], ["", "1"]),
            (signs("0a"), "a", [""], ["a", "0"]),
            (signs("0a"), "b", [], ["", "b"]),
            (then(A, B), "a", ["b"], ["", "ab"]),
            (then(A, B), "b", [], ["", "b"]),
            (then(many(A), B), "b", [""], ["b", "a"]),
            (then(many(A), B), "a", ["b", "ab"], ["", "a"]),
            (either(A, then(A, B)), "a", ["", "b"], ["a", "bb"]),
            (both(many(A), other_than(then(A, A))), "a", ["", "aa"], ["a", "b"]),
            (other_than(A), "a", ["a", "b0"], [""]),
            (other_than(A), "b", ["", "a"], []),
            (many(then(A, B)), "a", ["b", "bab"], ["", "ab"]),
            (many(other_than(A)), "a", ["a", "b"], [""]),
        ]:
            left = rest(shape, sign)
            for text in right:
                self.assertIs(fits(left, text), True, (shape, sign, text))
            for text in wrong:
                self.assertIs(fits(left, text), False, (shape, sign, text))

    def test_rests_of_rests(self):
        texts = ["01ab0b1a10abba01", "aaaaaaaaaaaaaaaa", "abababababababab", "0000000010000000"]
        for shape in SHAPES:
            for text in texts:
                left = shape
                for place, sign in enumerate(text):
                    self.assertIs(fits(left, ""), fits(shape, text[:place]), (shape, text[:place]))
                    left = rest(left, sign)
                self.assertIs(fits(left, ""), fits(shape, text), (shape, text))

    def test_rests_of_rests_do_not_grow_without_end(self):
        for shape in EACH_WORD + some_shapes(14, 15, 100):
            left = shape
            for sign in "01ab0b1a10abba01" * 4:
                left = rest(left, sign)
            self.assertLess(count_parts(left), 2000, shape)

    def test_the_whole_text_as_a_rest(self):
        text = "0a1b"
        shape = EMPTY
        for sign in reversed(text):
            shape = then(signs(sign), shape)
        for place, sign in enumerate(text):
            self.assertIs(fits(shape, text[place:]), True)
            shape = rest(shape, sign)
        self.assertIs(fits(shape, ""), True)
        self.assertIs(fits(shape, "0"), False)

    def test_no_sign(self):
        things = ["", "01", "ab", "01ab", "00", "c", "2", "A", " ", "\u0661", 0, 1, -1, 10, None, True, False]
        things += [[], ["0"], ["a", "b"], (), ("0",), ("signs", "0"), b"0", {}, [["0"]]]
        for shape in [NONE, EMPTY, A, ALL, then(A, B)]:
            for thing in things:
                with self.subTest(shape=shape, thing=thing):
                    with self.assertRaises(NoSign):
                        rest(shape, thing)
                    with self.assertRaises(KindError):
                        rest(shape, thing)

    def test_all_signs_are_taken(self):
        for sign in SIGNS:
            self.assertIs(fits(rest(ANY_SIGN, sign), ""), True)

    def test_very_deep_shapes(self):
        deep = then(A, B)
        for number in range(2000):
            deep = either(deep, then(signs("0"), deep)) if number % 1000 == 0 else then(deep, EMPTY)
        self.assertIs(fits(rest(deep, "a"), "b"), True)
        self.assertIs(fits(rest(deep, "0"), "b"), False)
        self.assertEqual(first_signs(deep), "0a")


class FirstSigns(unittest.TestCase):

    def test_by_hand(self):
        odd = then(ANY_SIGN, many(then(ANY_SIGN, ANY_SIGN)))
        for shape, expected in [
            (NONE, ""),
            (EMPTY, ""),
            (many(NONE), ""),
            (many(EMPTY), ""),
            (other_than(ALL), ""),
            (ALL, "01ab"),
            (other_than(EMPTY), "01ab"),
            (other_than(then(signs("0a"), ALL)), "1b"),
            (other_than(then(ANY_SIGN, ALL)), ""),
            (other_than(A), "01ab"),
            (signs("1b"), "1b"),
            (either(signs("b"), signs("0")), "0b"),
            (either(signs("ab"), signs("0a")), "0ab"),
            (many(signs("a")), "a"),
            (then(NONE, A), ""),
            (then(A, NONE), ""),
            (then(many(A), NONE), ""),
            (then(many(A), both(A, B)), ""),
            (then(A, other_than(ALL)), ""),
            (then(either(A, NONE), B), "a"),
            (then(EMPTY, B), "b"),
            (then(B, EMPTY), "b"),
            (then(many(signs("1")), signs("0")), "01"),
            (then(many(B), many(signs("0"))), "0b"),
            (then(other_than(A), NONE), ""),
            (either(then(A, NONE), B), "b"),
            (both(A, B), ""),
            (both(signs("01a"), signs("1ab")), "1a"),
            (both(then(A, signs("0")), then(A, signs("1"))), ""),
            (both(many(A), many(B)), ""),
            (both(odd, many(then(ANY_SIGN, ANY_SIGN))), ""),
            (both(then(signs("0b"), ALL), odd), "0b"),
            (both(other_than(then(A, ALL)), then(signs("ab"), B)), "b"),
            (other_than(either(EMPTY, then(ANY_SIGN, other_than(then(A, B))))), "01ab"),
            (many(both(A, B)), ""),
            (many(then(B, other_than(ALL))), ""),
            (then(other_than(other_than(EMPTY)), signs("1")), "1"),
        ]:
            with self.subTest(shape=shape):
                self.assertEqual(first_signs(shape), expected)

    def test_texts_that_begin_so_may_be_long(self):
        twos = many(then(ANY_SIGN, ANY_SIGN))
        threes = many(then(A, then(ANY_SIGN, ANY_SIGN)))
        self.assertEqual(first_signs(both(both(twos, threes), other_than(EMPTY))), "a")

    def test_all_short_texts(self):
        for shape in EACH_WORD + some_shapes(15, 4, 150) + some_shapes(16, 7, 300):
            expected = "".join(sorted({text[0] for text in fitting(shape, 4) if text != ""}))
            self.assertEqual(first_signs(shape), expected, shape)

    def test_a_sign_is_first_where_its_rest_is_not_without_texts(self):
        for shape in SHAPES:
            told = first_signs(shape)
            self.assertEqual(told, "".join(sorted(set(told))))
            for sign in SIGNS:
                left = rest(shape, sign)
                with_text = fits(left, "") or first_signs(left) != ""
                self.assertEqual(sign in told, with_text, (shape, sign))

    def test_shapes_of_very_many_parts(self):
        shape = many(ANY_SIGN)
        for number in range(40):
            shape = then(shape, either(signs("1"), then(A, B)))
        self.assertEqual(first_signs(shape), "01ab")


class LongestBeginning(unittest.TestCase):

    def test_none(self):
        self.assertIsNone(longest_beginning(NONE, "ab"))
        self.assertIsNone(longest_beginning(NONE, ""))
        self.assertIsNone(longest_beginning(A, "ba"))
        self.assertIsNone(longest_beginning(A, ""))
        self.assertIsNone(longest_beginning(other_than(ALL), "0"))

    def test_nothing_of_it(self):
        for shape, text in [(EMPTY, "ab"), (many(A), "ba"), (many(A), ""), (EMPTY, "")]:
            told = longest_beginning(shape, text)
            self.assertEqual(told, 0)
            self.assertIs(type(told), int)

    def test_some_of_it(self):
        self.assertEqual(longest_beginning(many(A), "aab"), 2)
        self.assertEqual(longest_beginning(A, "aa"), 1)
        self.assertEqual(longest_beginning(either(A, then(A, then(B, A))), "abab"), 3)
        self.assertEqual(longest_beginning(other_than(then(A, B)), "ab"), 1)

    def test_the_whole(self):
        self.assertEqual(longest_beginning(many(signs("ab")), "abba"), 4)
        self.assertEqual(longest_beginning(ALL, "01ab"), 4)

    def test_by_fits(self):
        for shape in SHAPES:
            for text in ["", "a", "0b", "01ab", "aab0a"]:
                fitting_sizes = [size for size in range(len(text) + 1) if fits(shape, text[:size])]
                expected = fitting_sizes[-1] if fitting_sizes else None
                self.assertEqual(longest_beginning(shape, text), expected, (shape, text))


class Stretches(unittest.TestCase):

    def test_none(self):
        self.assertEqual(stretches(NONE, "ab"), [])
        self.assertEqual(stretches(NONE, ""), [])
        self.assertEqual(stretches(A, "bb"), [])

    def test_empty_stretches(self):
        self.assertEqual(stretches(EMPTY, ""), [(0, 0)])
        self.assertEqual(stretches(EMPTY, "ab"), [(0, 0), (1, 1), (2, 2)])

    def test_in_rising_order(self):
        self.assertEqual(stretches(many(A), "aab"), [(0, 0), (0, 1), (0, 2), (1, 1), (1, 2), (2, 2), (3, 3)])
        self.assertEqual(stretches(then(A, ALL), "aba"), [(0, 1), (0, 2), (0, 3), (2, 3)])
        self.assertEqual(stretches(other_than(A), "ab"), [(0, 0), (0, 2), (1, 1), (1, 2), (2, 2)])

    def test_a_list_of_tuples(self):
        told = stretches(ALL, "0a")
        self.assertIs(type(told), list)
        for stretch in told:
            self.assertIs(type(stretch), tuple)
            self.assertEqual([type(place) for place in stretch], [int, int])

    def test_by_fits(self):
        for shape in SHAPES:
            for text in ["", "b", "a0", "01ab", "abba0"]:
                expected = [
                    (begin, end)
                    for begin in range(len(text) + 1)
                    for end in range(begin, len(text) + 1)
                    if fits(shape, text[begin:end])
                ]
                self.assertEqual(stretches(shape, text), expected, (shape, text))


class CutUp(unittest.TestCase):

    def test_the_empty_text(self):
        for shape in [NONE, EMPTY, A, ALL]:
            self.assertEqual(cut_up(shape, ""), [])

    def test_to_the_end(self):
        self.assertEqual(cut_up(A, "aa"), ["a", "a"])
        self.assertEqual(cut_up(ALL, "01ab"), ["01ab"])
        self.assertEqual(cut_up(then(signs("01"), many(signs("ab"))), "0ab11ba"), ["0ab", "1", "1ba"])
        self.assertEqual(cut_up(either(A, then(A, B)), "aaba"), ["a", "ab", "a"])
        self.assertEqual(cut_up(many(A), "aaa"), ["aaa"])

    def test_not_to_the_end(self):
        self.assertIsNone(cut_up(NONE, "a"))
        self.assertIsNone(cut_up(EMPTY, "a"))
        self.assertIsNone(cut_up(many(A), "aab"))
        self.assertIsNone(cut_up(A, "ba"))

    def test_as_many_as_can_be_even_where_fewer_would_come_to_the_end(self):
        self.assertIsNone(cut_up(either(A, either(then(A, B), then(B, B))), "abb"))

    def test_by_longest_beginnings(self):
        for shape in SHAPES:
            for text in ["b", "a0", "01ab", "abba01a", "aaaa"]:
                pieces = []
                left = text
                while left != "":
                    size = longest_beginning(shape, left)
                    if size is None or size == 0:
                        pieces = None
                        break
                    pieces.append(left[:size])
                    left = left[size:]
                self.assertEqual(cut_up(shape, text), pieces, (shape, text))


class NewEachTime(unittest.TestCase):

    def test_told_lists_are_new(self):
        shape = many(either(A, then(A, B)))
        for asked in [lambda: stretches(shape, "abab"), lambda: cut_up(A, "aaa"), lambda: cut_up(A, "")]:
            told = asked()
            expected = list(told)
            told.append("more")
            told.reverse()
            self.assertEqual(asked(), expected)
            del told[:]
            self.assertEqual(asked(), expected)
            self.assertIsNot(asked(), asked())

    def test_what_is_told_does_not_hang_on_what_was_asked(self):
        asked = [(shape, text) for shape in EACH_WORD for text in ["", "a", "0ab"]]
        first = [(stretches(*one), cut_up(*one), rest(one[0], "a"), first_signs(one[0])) for one in asked]
        again = [(stretches(*one), cut_up(*one), rest(one[0], "a"), first_signs(one[0])) for one in reversed(asked)]
        self.assertEqual(first, again[::-1])


if __name__ == "__main__":
    unittest.main()
