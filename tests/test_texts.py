"""[3.1], [3.2] and (b) of [0.2]: the texts of machines, how many there are, their order and their numbers."""

import unittest

from tests.slow import EACH_MACHINE, ENDS_IN_B, EVERYTHING, NO_SIGNS, NOTHING, ONE_A, ONLY_A, SOME_SIGN, THREE_TEXTS
from tests.slow import accepted, counting, line, many, signs, slow_least, some_machines, texts_up_to as all_texts, then
from textkinds.errors import KindError, NoneSuch
from textkinds.machines import machine_for
from textkinds.texts import first_texts, how_many, is_finite, least_text, longest, rank_of, text_at, texts_up_to

MACHINES = EACH_MACHINE + some_machines(41, 2, 30) + some_machines(42, 4, 60) + some_machines(43, 8, 30)
# Each with all its texts.
FINITE = [
    (NOTHING, []),
    (NO_SIGNS, [""]),
    (ONE_A, ["a"]),
    (THREE_TEXTS, ["0", "1b", "a01"]),
    (line(4, lambda state: state == 2), [one + other for one in "01ab" for other in "01ab"]),
    (line(4, lambda state: state < 2), ["", "0", "1", "a", "b"]),
    (line(50, lambda state: state == 1), ["0", "1", "a", "b"]),
    # The only way round leads through a state from which nothing is accepted.
    (((False, False, True), ((1, 1, 1, 2), (1,) * 4, (1,) * 4)), ["b"]),
    # A way round that is never reached.
    (((False, True, False, True), ((1, 2, 2, 2), (2,) * 4, (2,) * 4, (3, 1, 0, 3))), ["0"]),
]
INFINITE = [EVERYTHING, SOME_SIGN, ONLY_A, ENDS_IN_B, counting(40, lambda state: state == 39), counting(60, bool)]


class Finite(unittest.TestCase):

    def test_is_finite(self):
        for machine, texts in FINITE:
            with self.subTest(machine=machine):
                self.assertIs(is_finite(machine), True)
        for machine in INFINITE:
            with self.subTest(machine=machine):
                self.assertIs(is_finite(machine), False)

    def test_longest(self):
        for machine, texts in FINITE:
            with self.subTest(machine=machine):
                self.assertEqual(longest(machine), len(texts[-1]) if texts else None)
        for machine in INFINITE:
            with self.subTest(machine=machine):
                self.assertIsNone(longest(machine))

    def test_as_reckoned_slowly(self):
        for machine in MACHINES:
            least = slow_least(machine)
            states = len(least[0])
            if states > 4:
                continue
            texts = accepted(least, 2 * states - 1)
            # With more signs than states a text goes round, and so is not the only one of its kind.
            endless = any(len(text) >= states for text in texts)
            self.assertIs(is_finite(machine), not endless, machine)
            expected = None if endless or not texts else len(texts[-1])
            self.assertEqual(longest(machine), expected, machine)

    def test_many_states(self):
        self.assertEqual(longest(line(3000, lambda state: state in (7, 2998))), 2998)
        self.assertIs(is_finite(line(3000, lambda state: state in (7, 2998))), True)
        self.assertIsNone(longest(line(3000, lambda state: state == 2999)))
        self.assertIs(is_finite(line(3000, lambda state: state == 2999)), False)

    def test_unlike_ways_to_one_state(self):
        # The state 3 is reached by one sign, by two and by three: the longest way counts.
        machine = ((False, False, False, True, False), ((3, 2, 1, 4), (3, 2, 4, 4), (3, 4, 4, 4), (4,) * 4, (4,) * 4))
        self.assertEqual(longest(machine), 3)
        self.assertEqual(first_texts(machine, 9), ["0", "10", "a0", "a10"])


class HowMany(unittest.TestCase):

    def test_by_hand(self):
        for machine, long, expected in [
            (NOTHING, 0, 0), (NOTHING, 5, 0), (EVERYTHING, 0, 1), (EVERYTHING, 5, 1024), (NO_SIGNS, 0, 1), (NO_SIGNS, 1, 0),
            (ONE_A, 0, 0), (ONE_A, 1, 1), (ONE_A, 2, 0), (ONLY_A, 0, 1), (ONLY_A, 100, 1), (ENDS_IN_B, 0, 0),
            (ENDS_IN_B, 1, 1), (ENDS_IN_B, 4, 64), (THREE_TEXTS, 1, 1), (THREE_TEXTS, 3, 1), (THREE_TEXTS, 4, 0),
        ]:
            with self.subTest(machine=machine, long=long):
                self.assertEqual(how_many(machine, long), expected)

    def test_all_short_texts(self):
        for machine in MACHINES:
            lengths = [len(text) for text in accepted(machine, 4)]
            for long in range(5):
                self.assertEqual(how_many(machine, long), lengths.count(long), (machine, long))

    def test_great_numbers(self):
        self.assertEqual(how_many(EVERYTHING, 200), 4 ** 200)
        self.assertEqual(how_many(ENDS_IN_B, 200), 4 ** 199)
        self.assertEqual(how_many(counting(60, lambda state: state == 1), 121), 4 ** 121)
        self.assertEqual(how_many(counting(60, lambda state: state == 1), 120), 0)

    def test_far_behind_the_longest(self):
        for machine, texts in FINITE:
            with self.subTest(machine=machine):
                self.assertEqual(how_many(machine, 10 ** 30), 0)


class Lists(unittest.TestCase):

    def test_least_text(self):
        for machine in MACHINES:
            texts = accepted(machine, 4)
            if texts:
                self.assertEqual(least_text(machine), texts[0], machine)
        self.assertIsNone(least_text(NOTHING))
        self.assertIsNone(least_text(((False, True), ((0,) * 4, (0,) * 4))))
        self.assertEqual(least_text(EVERYTHING), "")

    def test_least_text_is_short_first_and_rising_then(self):
        self.assertEqual(least_text(machine_for(then(many(signs("0")), signs("b")))), "b")
        self.assertEqual(least_text(machine_for(then(signs("ab"), signs("1b")))), "a1")
        self.assertEqual(least_text(counting(60, lambda state: state == 59)), "0" * 59)

    def test_texts_up_to(self):
        for machine in MACHINES:
            for long in range(5):
                self.assertEqual(texts_up_to(machine, long), accepted(machine, long), (machine, long))

    def test_texts_up_to_of_finite_ones(self):
        for machine, texts in FINITE:
            for long in [0, 1, 2, 3, 4, 10, 10 ** 30]:
                expected = [text for text in texts if len(text) <= long]
                self.assertEqual(texts_up_to(machine, long), expected, (machine, long))

    def test_first_texts(self):
        for machine in MACHINES:
            texts = accepted(machine, 4)
            for size in [0, 1, 2, 3, 5, 21, 22]:
                if size <= len(texts):
                    self.assertEqual(first_texts(machine, size), texts[:size], (machine, size))

    def test_first_texts_of_finite_ones(self):
        for machine, texts in FINITE:
            for size in [0, 1, 2, 3, 4, 5, 16, 17, 10 ** 30]:
                self.assertEqual(first_texts(machine, size), texts[:size], (machine, size))

    def test_few_of_very_many(self):
        machine = line(41, lambda state: state == 39)
        zeros = "0" * 38
        self.assertEqual(first_texts(machine, 5), [zeros + "0", zeros + "1", zeros + "a", zeros + "b", "0" * 37 + "10"])
        self.assertEqual(texts_up_to(machine, 38), [])
        self.assertEqual(first_texts(counting(40, lambda state: state == 39), 1), ["0" * 39])

    def test_far_apart(self):
        only = machine_for(many(then(signs("a"), then(signs("b"), signs("0")))))
        self.assertEqual(first_texts(only, 30), ["ab0" * number for number in range(30)])
        self.assertEqual(texts_up_to(only, 32), ["ab0" * number for number in range(11)])

    def test_told_lists_are_new(self):
        for machine in MACHINES[:8]:
            for tell in [lambda: first_texts(machine, 4), lambda: texts_up_to(machine, 2)]:
                told = tell()
                before = list(told)
                told.append("b")
                told.reverse()
                self.assertEqual(tell(), before)
                self.assertIsInstance(tell(), list)


class Numbers(unittest.TestCase):

    def test_all_short_texts(self):
        for machine in MACHINES:
            texts = accepted(machine, 4)
            for number, text in enumerate(texts):
                self.assertEqual(text_at(machine, number), text, (machine, number))
                self.assertEqual(rank_of(machine, text), number, (machine, text))

    def test_texts_that_are_not_accepted(self):
        for machine in MACHINES:
            texts = accepted(machine, 3)
            for text in all_texts(3):
                if text not in texts:
                    self.assertIsNone(rank_of(machine, text), (machine, text))

    def test_none_such(self):
        for machine, texts in FINITE:
            for number in [len(texts), len(texts) + 1, len(texts) + 100, 10 ** 30]:
                with self.subTest(machine=machine, number=number):
                    with self.assertRaises(NoneSuch):
                        text_at(machine, number)
                    with self.assertRaises(KindError):
                        text_at(machine, number)
            for number, text in enumerate(texts):
                self.assertEqual(text_at(machine, number), text)

    def test_great_numbers(self):
        for machine in [EVERYTHING, ENDS_IN_B, SOME_SIGN, counting(60, lambda state: state == 7)]:
            for number in [10 ** 6, 10 ** 40, 10 ** 40 + 1, 4 ** 100]:
                text = text_at(machine, number)
                self.assertEqual(rank_of(machine, text), number)
                self.assertNotEqual(text_at(machine, number + 1), text)
        # Ahead of all texts of 20 signs stand those of 0 to 19.
        ahead = (4 ** 20 - 1) // 3
        self.assertEqual(text_at(EVERYTHING, ahead), "0" * 20)
        self.assertEqual(text_at(EVERYTHING, ahead - 1), "b" * 19)
        self.assertEqual(rank_of(EVERYTHING, "0" * 20), ahead)

    def test_one_text_of_each_length(self):
        self.assertEqual(text_at(ONLY_A, 3000), "a" * 3000)
        self.assertEqual(rank_of(ONLY_A, "a" * 3000), 3000)
        self.assertIsNone(rank_of(ONLY_A, "a" * 3000 + "b"))

    def test_the_last_of_very_many(self):
        machine = line(41, lambda state: state == 39)
        self.assertEqual(text_at(machine, 4 ** 39 - 1), "b" * 39)
        self.assertEqual(rank_of(machine, "b" * 39), 4 ** 39 - 1)
        with self.assertRaises(NoneSuch):
            text_at(machine, 4 ** 39)


if __name__ == "__main__":
    unittest.main()
