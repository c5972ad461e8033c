"""[8.3]: the shape of a machine."""

import random
import unittest

from tests.slow import ANY_SIGN, EACH_MACHINE, EACH_WORD, EMPTY, ENDS_IN_B, EVERYTHING, NO_SIGNS, NONE, NOTHING, ONE_A
from tests.slow import ONLY_A, SOME_SIGN, THREE_TEXTS, accepted, counting, fitting, is_made_of_shapes, line, many
from tests.slow import shuffled, signs, slow_end, some_machines, some_shapes
from textkinds.deeds import machine_of
from textkinds.drawing import shape_of
from textkinds.machines import least_of, machine_for
from textkinds.shapes import fits

MACHINES = EACH_MACHINE[:15] + some_machines(131, 2, 30) + some_machines(132, 3, 40) + some_machines(133, 5, 20)


def random_machine(source, states):
    """A machine whose signs lead anywhere."""
    ends = tuple(source.random() < 0.5 for state in range(states))
    return ends, tuple(tuple(source.randrange(states) for sign in "01ab") for state in range(states))


def words_in(shape):
    """All words of a shape."""
    found, waiting = set(), [shape]
    while waiting:
        part = waiting.pop()
        found.add(part[0])
        waiting.extend(inner for inner in part[1:] if isinstance(inner, tuple))
    return found


class ShapeOf(unittest.TestCase):

    def expect(self, machine):
        shape = shape_of(machine)
        self.assertEqual(words_in(shape) - {"none", "empty", "signs", "then", "or", "many"}, set(), machine)
        self.assertEqual(machine_for(shape), least_of(machine), machine)
        return shape

    def test_accepted_texts_alone_fit(self):
        for machine in MACHINES:
            shape = self.expect(machine)
            self.assertIs(is_made_of_shapes(shape), True, machine)
            self.assertEqual(fitting(shape, 3), set(accepted(machine, 3)), machine)

    def test_by_hand(self):
        for machine, shape in [(NOTHING, NONE), (NO_SIGNS, EMPTY), (ONE_A, signs("a")), (ONLY_A, many(signs("a")))]:
            with self.subTest(machine=machine):
                self.assertEqual(machine_for(shape_of(machine)), machine_for(shape))
                self.assertEqual(accepted(machine_for(shape_of(machine)), 3), accepted(machine, 3))
        self.assertIs(fits(shape_of(EVERYTHING), ""), True)
        self.assertIs(fits(shape_of(EVERYTHING), "ab01" * 20), True)
        self.assertIs(fits(shape_of(SOME_SIGN), ""), False)
        self.assertIs(fits(shape_of(SOME_SIGN), "b"), True)
        self.assertEqual([text for text in ["", "0", "1b", "a01", "a0", "01"] if fits(shape_of(THREE_TEXTS), text)], [
            "0", "1b", "a01"])

    def test_of_shapes(self):
        for shape in EACH_WORD + some_shapes(134, 8, 60) + some_shapes(135, 15, 60) + some_shapes(136, 25, 30):
            machine = machine_for(shape)
            self.assertEqual(machine_for(shape_of(machine)), machine, shape)
            self.assertEqual(words_in(shape_of(machine)) & {"and", "not"}, set())

    def test_any_signs_anywhere(self):
        source = random.Random(137)
        for states in [2, 3, 4, 5, 6, 8, 10]:
            for number in range(4):
                self.expect(random_machine(source, states))

    def test_states_that_are_like_others_or_never_reached(self):
        source = random.Random(138)
        for machine in EACH_MACHINE[:12]:
            self.expect(shuffled(source, machine, 45))

    def test_finitely_many_texts(self):
        texts = ["", "0", "01", "01ab", "b", "bb", "bab", "1" * 30]
        self.expect(machine_of(texts))
        self.expect(machine_of(["ab01" * 100]))

    def test_many_states(self):
        for machine in [counting(40, lambda state: state == 39), counting(60, lambda state: state % 7 == 2)]:
            self.expect(machine)
        for machine in [line(40, lambda state: state < 39), line(300, lambda state: state in (1, 298)), ENDS_IN_B]:
            self.expect(machine)
        self.expect(some_machines(139, 40, 1)[0])

    def test_it_is_told_soon_however_many_parts_it_has(self):
        # Such a shape has too many parts to be gone through, but like ones are kept once.
        shape = shape_of(random_machine(random.Random(140), 40))
        self.assertIs(isinstance(shape, tuple), True)

    def test_no_more_parts_than_can_be_gone_through(self):
        source = random.Random(141)
        for number in range(5):
            machine = random_machine(source, 12)
            shape = shape_of(machine)
            for text in ["", "0", "ab", "01ab" * 3, "b" * 12]:
                self.assertIs(fits(shape, text), machine[0][slow_end(machine, text)], (machine, text))

    def test_any_sign(self):
        self.assertEqual(shape_of(machine_for(ANY_SIGN)), ANY_SIGN)


if __name__ == "__main__":
    unittest.main()
