"""[5.1] and (d) of [0.2]: texts that tell machines apart, and how they lie to one another."""

import itertools
import random
import unittest

from tests.slow import EACH_MACHINE, ENDS_IN_B, EVERYTHING, NO_SIGNS, NOTHING, ONE_A, ONLY_A, SOME_SIGN, THREE_TEXTS
from tests.slow import accepted, counting, line, shuffled, slow_least, some_machines
from textkinds.comparing import how_they_lie, meeting, parting, unlike, within

LONG = 4
# Of few states: what tells two of them apart is short, mostly.
MACHINES = EACH_MACHINE[:14] + some_machines(61, 2, 12) + some_machines(62, 3, 14)
PAIRS = list(itertools.product(MACHINES, MACHINES))
TEXTS = [(machine, accepted(machine, LONG)) for machine in MACHINES]


def first(some):
    """The first of some texts in the document's order."""
    return min(some, key=lambda text: (len(text), text), default=None)


class FirstTexts(unittest.TestCase):

    def expect(self, told, right, pair):
        """What is told is the first one, or longer than all that were tried."""
        if right:
            self.assertEqual(told, first(right), pair)
        else:
            self.assertTrue(told is None or len(told) > LONG, (told, pair))

    def test_all_short_texts(self):
        for (one, some), (other, others) in itertools.product(TEXTS, TEXTS):
            pair = (one, other)
            self.expect(parting(one, other), set(some) - set(others), pair)
            self.expect(meeting(one, other), set(some) & set(others), pair)
            self.expect(unlike(one, other), set(some) ^ set(others), pair)

    def test_none_is_told_where_nothing_tells_them_apart(self):
        for one, other in PAIRS:
            same = slow_least(one) == slow_least(other)
            self.assertEqual(unlike(one, other) is None, same, (one, other))
            self.assertEqual(parting(one, other) is None and parting(other, one) is None, same, (one, other))

    def test_by_hand(self):
        for one, other, apart, met, just_one in [
            (NOTHING, NOTHING, None, None, None),
            (NOTHING, EVERYTHING, None, None, ""),
            (EVERYTHING, NOTHING, "", None, ""),
            (EVERYTHING, EVERYTHING, None, "", None),
            (EVERYTHING, NO_SIGNS, "0", "", "0"),
            (NO_SIGNS, SOME_SIGN, "", None, ""),
            (ONE_A, ONLY_A, None, "a", ""),
            (ONLY_A, ONE_A, "", "a", ""),
            (ENDS_IN_B, ONLY_A, "b", None, ""),
            (ENDS_IN_B, THREE_TEXTS, "b", "1b", "0"),
            (THREE_TEXTS, ENDS_IN_B, "0", "1b", "0"),
            (THREE_TEXTS, THREE_TEXTS, None, "0", None),
        ]:
            with self.subTest(one=one, other=other):
                self.assertEqual(parting(one, other), apart)
                self.assertEqual(meeting(one, other), met)
                self.assertEqual(unlike(one, other), just_one)

    def test_many_states(self):
        fifties, sixties = counting(50, lambda state: state == 49), counting(60, lambda state: state == 59)
        self.assertEqual(meeting(fifties, sixties), "0" * 299)
        self.assertEqual(parting(fifties, sixties), "0" * 49)
        self.assertEqual(parting(sixties, fifties), "0" * 59)
        self.assertEqual(unlike(sixties, fifties), "0" * 49)
        self.assertIsNone(unlike(sixties, counting(120, lambda state: state % 60 == 59)))
        self.assertEqual(unlike(line(900, lambda state: state > 700), line(900, lambda state: state > 701)), "0" * 701)

    def test_states_that_are_never_reached(self):
        source = random.Random(63)
        for machine in MACHINES:
            other = shuffled(source, machine, 44)
            self.assertIsNone(unlike(machine, other), machine)
            self.assertIsNone(parting(other, machine), machine)
            self.assertEqual(how_they_lie(other, machine), "same", machine)


class HowTheyLie(unittest.TestCase):

    def test_within(self):
        for one, other in PAIRS:
            self.assertIs(within(one, other), parting(one, other) is None, (one, other))
        for one, other, expected in [
            (NOTHING, NOTHING, True), (NOTHING, ONE_A, True), (ONE_A, NOTHING, False), (ONE_A, ONLY_A, True),
            (ONLY_A, ONE_A, False), (EVERYTHING, SOME_SIGN, False), (SOME_SIGN, EVERYTHING, True),
            (ENDS_IN_B, ONLY_A, False), (THREE_TEXTS, THREE_TEXTS, True),
        ]:
            with self.subTest(one=one, other=other):
                self.assertIs(within(one, other), expected)

    def test_by_hand(self):
        sixes, twos = counting(60, lambda state: state % 6 == 0), counting(42, lambda state: state % 2 == 0)
        for one, other, expected in [
            (NOTHING, NOTHING, "same"),
            (NOTHING, ((False, True), ((0,) * 4, (0,) * 4)), "same"),
            (EVERYTHING, ((True, True), ((1,) * 4, (0,) * 4)), "same"),
            (NOTHING, ONE_A, "less"),
            (ONE_A, NOTHING, "more"),
            (ONE_A, ONLY_A, "less"),
            (ONLY_A, ONE_A, "more"),
            (EVERYTHING, ENDS_IN_B, "more"),
            (NO_SIGNS, SOME_SIGN, "apart"),
            (ONLY_A, ENDS_IN_B, "apart"),
            (ENDS_IN_B, THREE_TEXTS, "cross"),
            (THREE_TEXTS, ENDS_IN_B, "cross"),
            (sixes, twos, "less"),
            (twos, sixes, "more"),
            (sixes, counting(6, lambda state: state == 5), "apart"),
            (sixes, counting(45, lambda state: state % 9 == 0), "cross"),
        ]:
            with self.subTest(one=one, other=other):
                self.assertEqual(how_they_lie(one, other), expected)

    def test_as_the_texts_say(self):
        for one, other in PAIRS:
            told = how_they_lie(one, other)
            less, more = within(one, other), within(other, one)
            if less and more:
                expected = "same"
            elif less or more:
                expected = "less" if less else "more"
            else:
                expected = "apart" if meeting(one, other) is None else "cross"
            self.assertEqual(told, expected, (one, other))


if __name__ == "__main__":
    unittest.main()
