"""[4.1] and (c) of [0.2]: machines put together, by the rules of sets and of texts."""

import itertools
import random
import unittest

from tests.slow import ALL, ANY_SIGN, EACH_MACHINE, EACH_WORD, ENDS_IN_B, EVERYTHING, NO_SIGNS, NOTHING, ONE_A, ONLY_A
from tests.slow import SOME_SIGN, THREE_TEXTS, accepted, behind, counting, is_made_of_states, line, shuffled, signs
from tests.slow import slow_least, some_machines, some_shapes, texts_up_to
from textkinds.algebra import both_of, either, other_than, repeated, then, turned, without
from textkinds.machines import least_of, machine_for

LONG = 4
SMALL = EACH_MACHINE[:15] + some_machines(51, 2, 8) + some_machines(52, 4, 12)
PAIRS = list(itertools.product(SMALL, SMALL))
THREES = list(itertools.product(EACH_MACHINE[4:9], some_machines(53, 3, 5), some_machines(54, 4, 5)))


def short(machine):
    return set(accepted(machine, LONG))


def any_number(some):
    """All texts up to the length that are made of some, one behind the other."""
    told = {""}
    while not behind(told, some, LONG) <= told:
        told |= behind(told, some, LONG)
    return told


class JustTheRightTexts(unittest.TestCase):

    def expect(self, machine, right, told_of):
        self.assertEqual(short(machine), right, told_of)
        self.assertIs(is_made_of_states(machine), True, told_of)
        if len(machine[0]) <= 30:
            self.assertEqual(machine, slow_least(machine), told_of)
        else:
            self.assertEqual(machine, least_of(machine), told_of)

    def test_of_two(self):
        for one, other in PAIRS:
            some, others = short(one), short(other)
            self.expect(either(one, other), some | others, (one, other))
            self.expect(both_of(one, other), some & others, (one, other))
            self.expect(without(one, other), some - others, (one, other))
            self.expect(then(one, other), behind(some, others, LONG), (one, other))

    def test_of_one(self):
        everything = set(texts_up_to(LONG))
        for one in SMALL + some_machines(55, 3, 40) + some_machines(56, 5, 40) + some_machines(57, 6, 20):
            some = short(one)
            self.expect(other_than(one), everything - some, one)
            self.expect(repeated(one), any_number(some), one)
            self.expect(turned(one), {text[::-1] for text in some}, one)

    def test_as_shapes_are_put_together(self):
        for one, other in itertools.product(EACH_WORD[9:], some_shapes(58, 5, 12)):
            pair = (one, other)
            first, second = machine_for(one), machine_for(other)
            self.assertEqual(either(first, second), machine_for(("or", one, other)), pair)
            self.assertEqual(both_of(first, second), machine_for(("and", one, other)), pair)
            self.assertEqual(without(first, second), machine_for(("and", one, ("not", other))), pair)
            self.assertEqual(then(first, second), machine_for(("then", one, other)), pair)
            self.assertEqual(other_than(first), machine_for(("not", one)), one)
            self.assertEqual(repeated(first), machine_for(("many", one)), one)

    def test_by_hand(self):
        for told, machine in [
            (either(NOTHING, NOTHING), NOTHING),
            (either(NO_SIGNS, SOME_SIGN), EVERYTHING),
            (either(ONE_A, ONLY_A), ONLY_A),
            (both_of(NO_SIGNS, SOME_SIGN), NOTHING),
            (both_of(EVERYTHING, ENDS_IN_B), ENDS_IN_B),
            (without(EVERYTHING, NO_SIGNS), SOME_SIGN),
            (without(ONE_A, ONLY_A), NOTHING),
            (without(NOTHING, EVERYTHING), NOTHING),
            (other_than(NOTHING), EVERYTHING),
            (other_than(EVERYTHING), NOTHING),
            (other_than(NO_SIGNS), SOME_SIGN),
            (then(EVERYTHING, machine_for(signs("b"))), ENDS_IN_B),
            (then(NO_SIGNS, ENDS_IN_B), ENDS_IN_B),
            (then(ENDS_IN_B, NOTHING), NOTHING),
            (repeated(NOTHING), NO_SIGNS),
            (repeated(NO_SIGNS), NO_SIGNS),
            (repeated(ONE_A), ONLY_A),
            (repeated(SOME_SIGN), EVERYTHING),
            (turned(NOTHING), NOTHING),
            (turned(EVERYTHING), EVERYTHING),
            (turned(ENDS_IN_B), machine_for(("then", signs("b"), ALL))),
            (turned(THREE_TEXTS), machine_for(("or", signs("0"), ("or", ("then", signs("b"), signs("1")), (
                "then", signs("1"), ("then", signs("0"), signs("a"))))))),
        ]:
            self.assertEqual(told, machine)


class RulesOfSets(unittest.TestCase):

    def test_of_one(self):
        for one in SMALL:
            self.assertEqual(other_than(other_than(one)), least_of(one), one)
            for same in [either(one, one), both_of(one, one), either(one, NOTHING), both_of(one, EVERYTHING)]:
                self.assertEqual(same, least_of(one), one)
            self.assertEqual(either(one, other_than(one)), EVERYTHING, one)
            self.assertEqual(both_of(one, other_than(one)), NOTHING, one)
            self.assertEqual(without(one, one), NOTHING, one)
            self.assertEqual(without(EVERYTHING, one), other_than(one), one)
            self.assertEqual(without(one, NOTHING), least_of(one), one)

    def test_of_two(self):
        for one, other in PAIRS:
            pair = (one, other)
            self.assertEqual(either(one, other), either(other, one), pair)
            self.assertEqual(both_of(one, other), both_of(other, one), pair)
            self.assertEqual(without(one, other), both_of(one, other_than(other)), pair)
            self.assertEqual(other_than(either(one, other)), both_of(other_than(one), other_than(other)), pair)
            self.assertEqual(either(one, both_of(one, other)), least_of(one), pair)
            self.assertEqual(either(without(one, other), both_of(one, other)), least_of(one), pair)

    def test_of_three(self):
        for one, two, three in THREES:
            whole = (one, two, three)
            self.assertEqual(either(one, either(two, three)), either(either(one, two), three), whole)
            self.assertEqual(both_of(one, both_of(two, three)), both_of(both_of(one, two), three), whole)
            self.assertEqual(both_of(one, either(two, three)), either(both_of(one, two), both_of(one, three)), whole)


class RulesOfTexts(unittest.TestCase):

    def test_of_one(self):
        for one in SMALL:
            self.assertEqual(then(one, NO_SIGNS), least_of(one), one)
            self.assertEqual(then(NO_SIGNS, one), least_of(one), one)
            self.assertEqual(then(one, NOTHING), NOTHING, one)
            self.assertEqual(then(NOTHING, one), NOTHING, one)
            once = repeated(one)
            self.assertEqual(repeated(once), once, one)
            self.assertEqual(then(once, once), once, one)
            self.assertEqual(either(NO_SIGNS, then(one, once)), once, one)
            self.assertEqual(either(NO_SIGNS, then(once, one)), once, one)
            self.assertEqual(turned(turned(one)), least_of(one), one)
            self.assertEqual(turned(repeated(one)), repeated(turned(one)), one)
            self.assertEqual(turned(other_than(one)), other_than(turned(one)), one)

    def test_of_two(self):
        for one, other in PAIRS:
            if len(one[0]) + len(other[0]) <= 8:
                pair = (one, other)
                self.assertEqual(turned(then(one, other)), then(turned(other), turned(one)), pair)
                self.assertEqual(turned(either(one, other)), either(turned(one), turned(other)), pair)

    def test_of_three(self):
        for one, two, three in THREES:
            whole = (one, two, three)
            self.assertEqual(then(one, then(two, three)), then(then(one, two), three), whole)
            self.assertEqual(then(one, either(two, three)), either(then(one, two), then(one, three)), whole)
            self.assertEqual(then(either(one, two), three), either(then(one, three), then(two, three)), whole)


class ManyStates(unittest.TestCase):

    def test_like_states_and_states_never_reached(self):
        source = random.Random(59)
        for one in EACH_MACHINE[:12]:
            other = shuffled(source, one, 45)
            for put_together in [other_than, repeated, turned]:
                self.assertEqual(put_together(other), put_together(one), one)
            for put_together in [either, both_of, without, then]:
                self.assertEqual(put_together(other, ENDS_IN_B), put_together(one, ENDS_IN_B), one)
                self.assertEqual(put_together(ENDS_IN_B, other), put_together(ENDS_IN_B, one), one)

    def test_counting(self):
        threes, twenties = counting(3, lambda state: state == 0), counting(20, lambda state: state == 0)
        sixties = counting(60, lambda state: state == 0)
        self.assertEqual(both_of(threes, twenties), sixties)
        self.assertEqual(repeated(counting(60, lambda state: state == 1)), EVERYTHING)
        self.assertEqual(then(sixties, threes), threes)
        self.assertEqual(turned(sixties), sixties)
        self.assertEqual(without(sixties, threes), NOTHING)
        self.assertEqual(without(threes, sixties), counting(60, lambda state: state != 0 and state % 3 == 0))
        self.assertEqual(other_than(sixties), counting(60, lambda state: state != 0))
        self.assertEqual(either(sixties, twenties), twenties)

    def test_lines(self):
        one = line(1502, lambda state: state == 1500)
        self.assertEqual(then(one, one), line(3002, lambda state: state == 3000))
        self.assertEqual(turned(one), one)
        self.assertEqual(repeated(one), counting(1500, lambda state: state == 0))

    def test_the_last_sign_but_many(self):
        some = NO_SIGNS
        for number in range(6):
            some = then(some, machine_for(ANY_SIGN))
        tail = then(EVERYTHING, then(machine_for(signs("a")), some))
        self.assertEqual(len(tail[0]), 128)
        self.assertEqual(turned(tail), then(turned(some), then(machine_for(signs("a")), EVERYTHING)))
        self.assertEqual(turned(turned(tail)), tail)
        self.assertEqual(repeated(repeated(tail)), repeated(tail))

    def test_what_would_grow_if_like_states_were_kept(self):
        # A machine of everything in 40 states: sets of its states would be without end, were it not made least first.
        rows = tuple(tuple((7 * state + 3 * sign + state * state) % 40 for sign in range(4)) for state in range(40))
        self.assertEqual(repeated(((True,) * 40, rows)), EVERYTHING)
        self.assertEqual(turned(((True,) * 40, rows)), EVERYTHING)
        self.assertEqual(then(((True,) * 40, rows), ((True,) * 40, rows)), EVERYTHING)


if __name__ == "__main__":
    unittest.main()
