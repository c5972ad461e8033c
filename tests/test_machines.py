"""[2.1], [2.2] and (a) of [0.2]: what a machine is, what it accepts, the least one, and that of a shape."""

import random
import unittest

from tests.slow import ALL, ANY_SIGN, EACH_MACHINE, EACH_WORD, EMPTY, ENDS_IN_B, EVERYTHING, NO_SIGNS, NONE, NOTHING
from tests.slow import ONE_A, ONLY_A, THREE_TEXTS, accepted, both, counting, either, fitting, is_made_of_states, line
from tests.slow import many, other_than, shuffled, signs, slow_least, some_machines, some_shapes, texts_up_to, then
from textkinds.machines import accepts, is_least, is_machine, least_of, machine_for
from textkinds.rests import rest
from textkinds.shapes import fits

A = signs("a")
B = signs("b")
MACHINES = EACH_MACHINE + some_machines(21, 3, 60) + some_machines(22, 7, 60) + some_machines(23, 12, 20)


def same_row(states, goal):
    """A machine of so many states, all of whose signs lead to this goal."""
    return ((True,) * states, ((goal,) * 4,) * states)


class IsMachine(unittest.TestCase):

    def expect_none(self, things):
        for thing in things:
            with self.subTest(thing=thing):
                self.assertIs(is_machine(thing), False)

    def test_machines(self):
        for machine in MACHINES:
            if len(machine[0]) <= 40:
                with self.subTest(machine=machine):
                    self.assertIs(is_machine(machine), True)

    def test_one_state_to_forty(self):
        for states in range(1, 41):
            with self.subTest(states=states):
                self.assertIs(is_machine(same_row(states, states - 1)), True)
                self.assertIs(is_machine(line(states, lambda state: state % 2)), True)

    def test_too_few_or_many_states(self):
        self.expect_none([((), ()), same_row(41, 0), same_row(42, 0), counting(41, bool), same_row(1000, 999)])

    def test_things_of_other_kinds(self):
        things = [None, True, False, 0, 1, 40, -1, "", "01", "ab", (), [], (None, None), (True, True), (1, 1), ("", "")]
        things += [("a", "b"), ((True,),), (((0, 0, 0, 0),),), b"", ((), (), ()), ([], []), ((True,), None), (True, 0)]
        things += [NOTHING + NOTHING, NOTHING + ((),), (NOTHING,), (NOTHING, NOTHING), NONE, EMPTY, A, then(A, B)]
        things += [((True,), ("0000",)), ("T", ((0, 0, 0, 0),)), ((True,), "0"), ("00", ("0000", "0000"))]
        self.expect_none(things)

    def test_lists_in_the_stead_of_tuples(self):
        ends, rows = ONLY_A
        self.expect_none([[ends, rows], (list(ends), rows), (ends, list(rows)), (ends, (list(rows[0]), rows[1]))])
        self.expect_none([(ends, (rows[0], list(rows[1]))), [list(ends), [list(row) for row in rows]]])

    def test_ends_that_are_no_truths(self):
        for end in [0, 1, None, "", "a", "True", (), (True,), [], [True]]:
            self.expect_none([((end,), ((0,) * 4,)), ((True, end), ((0,) * 4,) * 2), ((end, True), ((0,) * 4,) * 2)])

    def test_goals_that_are_no_states(self):
        for goal in [-1, 2, 3, 40, 41, -2, 10 ** 30, None, True, False, "", "0", (), (0,), [], [0], b"0"]:
            for place in range(4):
                row = (0,) * place + (goal,) + (1,) * (3 - place)
                self.expect_none([((True, False), (row, (0,) * 4)), ((True, False), ((0,) * 4, row))])

    def test_the_last_state_and_the_one_behind_it(self):
        self.assertIs(is_machine(same_row(40, 39)), True)
        self.expect_none([same_row(40, 40), same_row(1, 1), same_row(5, 5), same_row(5, -1)])

    def test_rows_of_another_length(self):
        for row in [(), (0,), (0,) * 3, (0,) * 5, (0,) * 8]:
            self.expect_none([((True,), (row,)), ((True, False), ((0,) * 4, row)), ((True, False), (row, (0,) * 4))])

    def test_rows_of_another_kind(self):
        for row in [None, True, 0, "0000", [0, 0, 0, 0], b"0000", ((0, 0, 0, 0),), ((0,),) * 4]:
            self.expect_none([((True,), (row,)), ((True, False), ((0,) * 4, row)), ((True, False), (row, (0,) * 4))])

    def test_more_or_fewer_rows_than_ends(self):
        row = (0,) * 4
        self.expect_none([((True,), (row, row)), ((True, True), (row,)), ((), (row,)), ((True,), ())])
        self.expect_none([((True,) * 40, (row,) * 41), ((True,) * 41, (row,) * 40), ((True,) * 40, (row,) * 39)])

    def test_things_some_twenty_deep(self):
        for begin in [NOTHING, None, 7, "a", [], True, (0, 0, 0, 0)]:
            pair, nest, lists, four = begin, begin, begin, begin
            for number in range(22):
                pair, nest, lists, four = (pair, pair), (nest,), [lists, lists], (four,) * 4
            self.expect_none([nest, ((True,), (nest,)), (nest, nest)])
            for thing in [pair, lists, four, ((True,), pair), ((True,), four), ((True,), (four,)), (pair, lists)]:
                self.assertIs(is_machine(thing), False)


class Accepts(unittest.TestCase):

    def expect(self, machine, right, wrong):
        for text in right:
            with self.subTest(machine=machine, text=text):
                self.assertIs(accepts(machine, text), True)
        for text in wrong:
            with self.subTest(machine=machine, text=text):
                self.assertIs(accepts(machine, text), False)

    def test_by_hand(self):
        self.expect(NOTHING, [], ["", "0", "ab01"])
        self.expect(EVERYTHING, ["", "0", "ab01"], [])
        self.expect(NO_SIGNS, [""], ["0", "1", "a", "b", "ab"])
        self.expect(ONE_A, ["a"], ["", "0", "1", "b", "aa", "ab"])
        self.expect(ENDS_IN_B, ["b", "0b", "abb"], ["", "0", "ba"])
        self.expect(THREE_TEXTS, ["0", "1b", "a01"], ["", "00", "1", "1a", "a0", "a011", "b"])

    def test_the_signs_are_in_order(self):
        apart = ((False, True, True, True, True), ((1, 2, 3, 4), (1, 0, 0, 0), (0, 2, 0, 0), (0, 0, 3, 0), (0, 0, 0, 4)))
        self.expect(apart, ["0", "11", "aaa", "bbbb"], ["", "01", "1a", "ab", "b0"])

    def test_all_short_texts(self):
        for machine in MACHINES:
            right = accepted(machine, 4)
            for text in texts_up_to(4):
                self.assertIs(accepts(machine, text), text in right, (machine, text))

    def test_long_texts_and_many_states(self):
        many_states = counting(1000, lambda state: state == 999)
        self.expect(many_states, ["01a" * 333, "b" * 1999], ["", "b" * 998, "b" * 1000, "a" * 2000])
        self.expect(ONLY_A, ["a" * 20000], ["a" * 20000 + "b"])


class Least(unittest.TestCase):

    def test_by_hand(self):
        self.assertEqual(least_of(NOTHING), NOTHING)
        self.assertEqual(least_of(EVERYTHING), EVERYTHING)
        self.assertEqual(least_of(((False, True), ((0,) * 4,) * 2)), NOTHING)
        self.assertEqual(least_of(((True, True, True), ((1,) * 4, (2,) * 4, (0,) * 4))), EVERYTHING)
        self.assertEqual(least_of(((False, False, False), ((1, 2, 1, 2), (0, 0, 1, 1), (2, 2, 2, 2)))), NOTHING)
        self.assertEqual(least_of(counting(6, lambda state: state % 2 == 0)), counting(2, lambda state: state == 0))
        self.assertEqual(least_of(((False, True, False), ((2, 2, 1, 2), (2,) * 4, (2,) * 4))), (
            (False, False, True), ((1, 1, 2, 1), (1,) * 4, (1,) * 4)))
        self.assertEqual(least_of(THREE_TEXTS), (
            (False, True, False, False, False, False),
            ((1, 2, 3, 4), (4,) * 4, (4, 4, 4, 1), (5, 4, 4, 4), (4,) * 4, (4, 1, 4, 4))))

    def test_states_are_numbered_as_they_are_reached(self):
        # Row by row and sign by sign: 3 is met first, then 1 from the same row, then 2 from that of 3.
        machine = ((False, True, False, True), ((3, 1, 3, 1), (0, 0, 1, 1), (2, 2, 2, 2), (2, 0, 1, 3)))
        self.assertEqual(least_of(machine), (
            (False, True, True, False), ((1, 2, 1, 2), (3, 0, 2, 1), (0, 0, 2, 2), (3, 3, 3, 3))))

    def test_as_reckoned_slowly(self):
        for machine in MACHINES:
            self.assertEqual(least_of(machine), slow_least(machine), machine)

    def test_accepts_the_same(self):
        for machine in MACHINES:
            self.assertEqual(accepted(least_of(machine), 4), accepted(machine, 4), machine)

    def test_the_same_for_all_that_accept_the_same(self):
        source = random.Random(24)
        for machine in MACHINES:
            for more in [0, 1, 9]:
                other = shuffled(source, machine, more)
                self.assertEqual(least_of(other), least_of(machine), (machine, other))

    def test_machines_of_forty_states_and_more(self):
        source = random.Random(25)
        for machine in some_machines(26, 40, 5) + some_machines(27, 41, 5):
            self.assertEqual(least_of(machine), slow_least(machine), machine)
            self.assertEqual(least_of(shuffled(source, machine, 60)), least_of(machine), machine)
        self.assertEqual(least_of(counting(600, lambda state: state % 60 == 7)), counting(60, lambda state: state == 7))
        self.assertEqual(least_of(line(600, lambda state: state > 70)), line(72, lambda state: state > 70))

    def test_long_lines(self):
        for is_end in [lambda state: state == 1998, lambda state: state < 1999, lambda state: state == 1999]:
            machine = line(2000, is_end)
            self.assertEqual(least_of(machine), machine)

    def test_is_made_of_tuples_truths_and_numbers(self):
        for machine in MACHINES:
            self.assertIs(is_made_of_states(least_of(machine)), True)


class IsLeast(unittest.TestCase):

    def expect(self, machine, expected):
        with self.subTest(machine=machine):
            self.assertIs(is_least(machine), expected)

    def test_least_ones(self):
        for machine in [NOTHING, EVERYTHING, NO_SIGNS, ONE_A, ONLY_A, ENDS_IN_B, counting(40, lambda state: state == 5)]:
            self.expect(machine, True)
        self.expect(counting(41, lambda state: state == 2), True)
        self.expect(line(60, lambda state: state == 58), True)

    def test_states_that_are_never_reached(self):
        self.expect(((True, False), ((0,) * 4, (1,) * 4)), False)
        self.expect(((True, False, True), ((1,) * 4, (1,) * 4, (0,) * 4)), False)

    def test_states_that_are_like_others(self):
        self.expect(((True, True), ((1,) * 4, (0,) * 4)), False)
        self.expect(((True, False, False), ((1, 1, 2, 2), (1,) * 4, (2,) * 4)), False)
        self.expect(counting(6, lambda state: state % 2 == 0), False)

    def test_the_fewest_states_in_another_order(self):
        self.expect(((False, True, False), ((2, 2, 1, 2), (2,) * 4, (2,) * 4)), False)
        self.expect(((False, False, True), ((1, 1, 2, 1), (1,) * 4, (1,) * 4)), True)
        self.expect(((False, False, True), ((2, 2, 1, 2), (0,) * 4, (2,) * 4)), False)

    def test_as_reckoned_slowly(self):
        for machine in MACHINES + some_machines(28, 2, 60):
            self.expect(machine, slow_least(machine) == machine)
            self.expect(least_of(machine), True)


class MachineFor(unittest.TestCase):

    def test_by_hand(self):
        for shape, machine in [
            (NONE, NOTHING),
            (EMPTY, NO_SIGNS),
            (ALL, EVERYTHING),
            (A, ((False, False, True), ((1, 1, 2, 1), (1,) * 4, (1,) * 4))),
            (signs("0"), ((False, True, False), ((1, 2, 2, 2), (2,) * 4, (2,) * 4))),
            (ANY_SIGN, ((False, True, False), ((1,) * 4, (2,) * 4, (2,) * 4))),
            (other_than(EMPTY), ((False, True), ((1,) * 4, (1,) * 4))),
            (many(A), ONLY_A),
            (many(NONE), NO_SIGNS),
            (many(EMPTY), NO_SIGNS),
            (many(ANY_SIGN), EVERYTHING),
            (then(ALL, B), ENDS_IN_B),
            (then(A, NONE), NOTHING),
            (then(NONE, A), NOTHING),
            (then(EMPTY, EMPTY), NO_SIGNS),
            (both(A, B), NOTHING),
            (either(A, other_than(A)), EVERYTHING),
            (many(then(ANY_SIGN, ANY_SIGN)), counting(2, lambda state: state == 0)),
            (then(A, B), ((False, False, False, True), ((1, 1, 2, 1), (1,) * 4, (1, 1, 1, 3), (1,) * 4))),
        ]:
            with self.subTest(shape=shape):
                self.assertEqual(machine_for(shape), machine)

    def test_accepts_just_what_fits(self):
        for shape in EACH_WORD + some_shapes(31, 5, 80) + some_shapes(32, 15, 80) + some_shapes(33, 30, 30):
            machine = machine_for(shape)
            self.assertEqual(set(accepted(machine, 3)), fitting(shape, 3), shape)
            self.assertIs(is_made_of_states(machine), True, shape)
            self.assertEqual(slow_least(machine), machine, shape)

    def test_the_same_for_all_shapes_that_the_same_texts_fit(self):
        for one in EACH_WORD:
            self.assertEqual(machine_for(other_than(other_than(one))), machine_for(one), one)
            self.assertEqual(machine_for(many(many(one))), machine_for(many(one)), one)
            self.assertEqual(machine_for(then(EMPTY, then(one, EMPTY))), machine_for(one), one)
            self.assertEqual(machine_for(then(many(one), many(one))), machine_for(many(one)), one)
            for other in EACH_WORD[:20]:
                shape = both(one, other)
                like = other_than(either(other_than(other), other_than(one)))
                self.assertEqual(machine_for(like), machine_for(shape), shape)

    def test_a_sign_ahead_of_a_rest(self):
        for shape in EACH_WORD + some_shapes(34, 15, 40):
            whole = both(shape, EMPTY)
            for sign in "01ab":
                whole = either(whole, then(signs(sign), rest(shape, sign)))
            self.assertEqual(machine_for(whole), machine_for(shape), shape)

    def test_many_states(self):
        shape = EMPTY
        for number in range(5):
            shape = then(ANY_SIGN, shape)
        machine = machine_for(then(ALL, then(A, shape)))
        self.assertEqual(len(machine[0]), 64)
        self.assertIs(accepts(machine, "01ab" + "a" + "01aab"), True)
        self.assertIs(accepts(machine, "01aa" + "b" + "aaaaa"), False)

    def test_shapes_of_many_parts(self):
        text = "01ab0b1a10abba01" * 4
        shape = EMPTY
        for sign in text:
            shape = then(shape, signs(sign))
        self.assertEqual(machine_for(then(shape, ALL))[0].count(True), 1)
        self.assertEqual(len(machine_for(shape)[0]), len(text) + 2)
        deep = A
        for number in range(2000):
            deep = other_than(deep)
        self.assertEqual(machine_for(deep), machine_for(A))

    def test_any_number_of_any_number(self):
        # Such a shape is slow where states are kept whose texts another one accepts, too.
        inner = then(ANY_SIGN, then(ANY_SIGN, then(ANY_SIGN, either(B, then(ANY_SIGN, signs("01b"))))))
        once = machine_for(many(inner))
        self.assertEqual(machine_for(many(many(inner))), once)
        for text in ["", "000b", "0000b", "000a", "000b0001b0", "0" * 30]:
            self.assertIs(accepts(once, text), fits(many(inner), text), text)


if __name__ == "__main__":
    unittest.main()
