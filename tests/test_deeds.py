"""[6.1], [6.2] and (e) of [0.2]: deeds on texts and on machines, what comes before them, machines of lists."""

import itertools
import random
import unittest

from tests.slow import ALL, ANY_SIGN, EACH_MACHINE, EMPTY, ENDS_IN_B, EVERYTHING, NO_SIGNS, NONE, NOTHING, ONE_A, ONLY_A
from tests.slow import SIGNS, SOME_SIGN, THREE_TEXTS, accepted, counting, deed_on_text, either, is_made_of_states, line
from tests.slow import many, shuffled, signs, slow_end, slow_least, some_machines, some_text, texts_up_to, then
from textkinds.algebra import both_of, either as either_of, repeated, then as then_of, turned, without
from textkinds.comparing import within
from textkinds.deeds import all_below, all_of, before_dropped, before_replaced, before_taken, before_turned, dropped
from textkinds.deeds import everything, machine_of, replaced, taken, text_dropped, text_replaced, text_taken
from textkinds.machines import least_of, machine_for

LONG = 3
SMALL = EACH_MACHINE[:15] + some_machines(61, 2, 12) + some_machines(62, 3, 12) + some_machines(63, 4, 12)
NUMBERS = [0, 1, 2, 3]
INSTEAD = ["", "0", "a", "b", "ab", "ba", "aa", "0a1", "1b0a"]


def word(text):
    """A shape that just one text fits."""
    shape = EMPTY
    for sign in text:
        shape = then(shape, signs(sign))
    return shape


def words(texts):
    """A shape that just some texts fit."""
    shape = NONE
    for text in texts:
        shape = either(shape, word(text))
    return shape


class Least(unittest.TestCase):

    def expect_least(self, machine, told_of):
        self.assertIs(is_made_of_states(machine), True, told_of)
        if len(machine[0]) <= 30:
            self.assertEqual(machine, slow_least(machine), told_of)
        else:
            self.assertEqual(machine, least_of(machine), told_of)

    def expect(self, machine, right, long, told_of):
        self.assertEqual(accepted(machine, long), [text for text in texts_up_to(long) if text in right], told_of)
        self.expect_least(machine, told_of)


class OnTexts(unittest.TestCase):

    def test_taken(self):
        for text, size, told in [
            ("", 0, ""), ("", 1, ""), ("", 9, ""), ("ab01", 0, ""), ("ab01", 1, "a"), ("ab01", 3, "ab0"), ("ab01", 4, "ab01"),
            ("ab01", 5, "ab01"), ("ab01", 10 ** 30, "ab01"), ("b", 1, "b"),
        ]:
            with self.subTest(text=text, size=size):
                self.assertEqual(text_taken(text, size), told)

    def test_dropped(self):
        for text, size, told in [
            ("", 0, ""), ("", 1, ""), ("", 9, ""), ("ab01", 0, "ab01"), ("ab01", 1, "b01"), ("ab01", 3, "1"), ("ab01", 4, ""),
            ("ab01", 5, ""), ("ab01", 10 ** 30, ""), ("b", 1, ""),
        ]:
            with self.subTest(text=text, size=size):
                self.assertEqual(text_dropped(text, size), told)

    def test_replaced(self):
        for text, sign, other, told in [
            ("", "a", "b", ""), ("abab", "a", "", "bb"), ("aaa", "a", "", ""), ("abab", "a", "a", "abab"),
            ("abab", "a", "aa", "aabaab"), ("abab", "a", "ba", "babbab"), ("aaa", "a", "aa", "aaaaaa"), ("01", "a", "b", "01"),
            ("01", "0", "1", "11"), ("01", "1", "0110", "00110"), ("b", "b", "bab", "bab"), ("10", "1", "0", "00"),
        ]:
            with self.subTest(text=text, sign=sign, other=other):
                self.assertEqual(text_replaced(text, sign, other), told)

    def test_all_short_texts(self):
        for text in texts_up_to(4):
            for size in range(7):
                self.assertEqual(text_taken(text, size), deed_on_text(("taken", None, size), text))
                self.assertEqual(text_dropped(text, size), deed_on_text(("dropped", None, size), text))
                self.assertEqual(text_taken(text, size) + text_dropped(text, size), text)
            for sign, other in itertools.product(SIGNS, INSTEAD):
                told = deed_on_text(("replaced", None, sign, other), text)
                self.assertEqual(text_replaced(text, sign, other), told)


class Taken(Least):

    def test_all_short_texts(self):
        for one in SMALL:
            # What is accepted behind some signs is so behind fewer than there are states.
            some = accepted(one, 6)
            for size in NUMBERS:
                if size + len(one[0]) <= 7:
                    right = {text[:size] for text in some}
                    self.expect(taken(one, size), right, LONG + 1, (one, size))

    def test_by_hand(self):
        for size in [0, 1, 2, 6, 7, 10 ** 30]:
            self.assertEqual(taken(NOTHING, size), NOTHING)
            self.assertEqual(taken(NO_SIGNS, size), NO_SIGNS)
            self.assertEqual(taken(THREE_TEXTS, size), machine_for(words({text[:size] for text in ["0", "1b", "a01"]})))
        for size in [0, 1, 2, 6, 7, 40]:
            self.assertEqual(taken(EVERYTHING, size), all_below(size + 1))
            self.assertEqual(taken(ONLY_A, size), machine_of(["a" * number for number in range(size + 1)]))
            short = both_of(ENDS_IN_B, all_below(size))
            self.assertEqual(taken(ENDS_IN_B, size), either_of(short, all_of(size)))
        self.assertEqual(taken(ONE_A, 0), NO_SIGNS)
        self.assertEqual(taken(ONE_A, 1), ONE_A)
        self.assertEqual(taken(SOME_SIGN, 0), NO_SIGNS)

    def test_no_signs_of_some_text(self):
        for one in SMALL:
            self.assertEqual(taken(one, 0), NOTHING if slow_least(one) == NOTHING else NO_SIGNS, one)

    def test_many_states(self):
        self.assertEqual(taken(line(60, lambda state: state == 58), 50), all_of(50))
        self.assertEqual(taken(line(60, lambda state: state == 58), 10 ** 30), line(60, lambda state: state == 58))
        self.assertEqual(taken(counting(41, lambda state: state == 2), 2), all_of(2))


class Dropped(Least):

    def test_all_short_texts(self):
        for one in SMALL:
            for size in NUMBERS:
                right = {text[size:] for text in accepted(one, LONG + size)}
                self.expect(dropped(one, size), right, LONG, (one, size))

    def test_by_hand(self):
        for size in [0, 1, 2, 6, 7, 10 ** 30]:
            self.assertEqual(dropped(NOTHING, size), NOTHING)
            self.assertEqual(dropped(EVERYTHING, size), EVERYTHING)
            self.assertEqual(dropped(NO_SIGNS, size), NO_SIGNS)
            self.assertEqual(dropped(ONLY_A, size), ONLY_A)
            self.assertEqual(dropped(THREE_TEXTS, size), machine_for(words({text[size:] for text in ["0", "1b", "a01"]})))
        self.assertEqual(dropped(ENDS_IN_B, 1), either_of(NO_SIGNS, ENDS_IN_B))
        self.assertEqual(dropped(SOME_SIGN, 1), EVERYTHING)
        self.assertEqual(dropped(ONE_A, 0), ONE_A)
        self.assertEqual(dropped(ONE_A, 1), NO_SIGNS)

    def test_a_short_text_leaves_the_empty_one_alone(self):
        one = machine_for(either(signs("a"), then(signs("0"), then(signs("1"), many(signs("b"))))))
        self.assertEqual(dropped(one, 2), machine_for(many(signs("b"))))
        other = machine_for(either(signs("a"), then(signs("0"), then(signs("1"), then(signs("b"), many(signs("b")))))))
        self.assertEqual(dropped(other, 2), machine_for(many(signs("b"))))
        back = machine_for(then(then(signs("0"), ANY_SIGN), many(then(signs("a"), signs("b")))))
        self.assertEqual(dropped(either_of(back, ONE_A), 2), machine_for(many(then(signs("a"), signs("b")))))
        self.assertEqual(dropped(either_of(back, ONE_A), 3), machine_for(
            either(EMPTY, then(signs("b"), many(then(signs("a"), signs("b")))))))

    def test_round_and_round(self):
        # States that come round by two, by three and by five signs, told apart by how many signs are dropped.
        for size in list(range(12)) + [30, 31, 10 ** 30, 10 ** 30 + 7]:
            for states in [2, 3, 5]:
                one = both_of(counting(states, lambda state: state == 0), machine_for(then(ANY_SIGN, ALL)))
                left = (-size) % states
                expected = one if size == 0 else counting(states, lambda state: state == left)
                if size >= states:
                    expected = either_of(expected, NO_SIGNS)
                self.assertEqual(dropped(one, size), least_of(expected), (size, states))

    def test_many_states(self):
        self.assertEqual(dropped(line(60, lambda state: state == 58), 50), all_of(8))
        self.assertEqual(dropped(line(60, lambda state: state == 58), 59), NO_SIGNS)


class Replaced(Least):

    def test_by_one_sign_or_more(self):
        for one in SMALL:
            some = accepted(one, LONG)
            for sign, other in itertools.product(SIGNS, INSTEAD[1:]):
                right = {deed_on_text(("replaced", None, sign, other), text) for text in some}
                self.expect(replaced(one, sign, other), right, LONG, (one, sign, other))

    def test_by_nothing(self):
        for one in [machine for machine in SMALL if len(machine[0]) <= 3]:
            # Between two signs of what is left fewer of those left out than states are enough.
            long = 2 if len(one[0]) == 3 else 3
            some = accepted(one, long + (long + 1) * (len(one[0]) - 1))
            for sign in SIGNS:
                right = {text.replace(sign, "") for text in some}
                self.expect(replaced(one, sign, ""), right, long, (one, sign))

    def test_by_itself(self):
        for one in SMALL:
            for sign in SIGNS:
                self.assertEqual(replaced(one, sign, sign), least_of(one), one)

    def test_by_hand(self):
        for sign, other in itertools.product(SIGNS, INSTEAD):
            self.assertEqual(replaced(NOTHING, sign, other), NOTHING)
            self.assertEqual(replaced(NO_SIGNS, sign, other), NO_SIGNS)
            right = {text.replace(sign, other) for text in ["0", "1b", "a01"]}
            self.assertEqual(replaced(THREE_TEXTS, sign, other), machine_for(words(right)))
        self.assertEqual(replaced(EVERYTHING, "a", ""), machine_for(many(signs("01b"))))
        self.assertEqual(replaced(EVERYTHING, "a", "b"), machine_for(many(signs("01b"))))
        self.assertEqual(replaced(EVERYTHING, "a", "aa"), machine_for(many(either(signs("01b"), word("aa")))))
        self.assertEqual(replaced(EVERYTHING, "0", "1a"), machine_for(many(signs("1ab"))))
        self.assertEqual(replaced(ONLY_A, "a", ""), NO_SIGNS)
        self.assertEqual(replaced(ONLY_A, "a", "ab0"), machine_for(many(word("ab0"))))
        self.assertEqual(replaced(ONLY_A, "b", "ab0"), ONLY_A)
        self.assertEqual(replaced(ENDS_IN_B, "b", ""), machine_for(many(signs("01a"))))
        self.assertEqual(replaced(ONE_A, "a", "ba"), machine_of(["ba"]))

    def test_many_states(self):
        one = line(60, lambda state: state == 58)
        self.assertEqual(replaced(one, "a", "b"), both_of(one, machine_for(many(signs("01b")))))
        self.assertEqual(replaced(one, "0", ""), both_of(all_below(59), machine_for(many(signs("1ab")))))
        self.assertEqual(replaced(machine_of(["a" * 50]), "a", "aaaa"), machine_of(["a" * 200]))


class Before(Least):

    def test_all_short_texts(self):
        for one in SMALL:
            some = set(accepted(one, 4))
            for size in NUMBERS:
                right = [text for text in texts_up_to(4) if text[:size] in some]
                self.expect(before_taken(one, size), right, 4, (one, size))
                right = [text for text in texts_up_to(4) if text[size:] in some]
                self.expect(before_dropped(one, size), right, 4, (one, size))
            self.expect(before_turned(one), [text for text in texts_up_to(4) if text[::-1] in some], 4, one)

    def test_before_replaced(self):
        for one in SMALL:
            for sign, other in itertools.product(SIGNS, INSTEAD):
                right = [
                    text for text in texts_up_to(LONG)
                    if one[0][slow_end(one, deed_on_text(("replaced", None, sign, other), text))]
                ]
                self.expect(before_replaced(one, sign, other), right, LONG, (one, sign, other))

    def test_by_hand(self):
        for size in [0, 1, 2, 7, 10 ** 30]:
            for one in [NOTHING, EVERYTHING]:
                self.assertEqual(before_taken(one, size), one)
                self.assertEqual(before_dropped(one, size), one)
            self.assertEqual(before_taken(NO_SIGNS, size), EVERYTHING if size == 0 else NO_SIGNS)
        for size in [0, 1, 2, 7, 40]:
            self.assertEqual(before_dropped(NO_SIGNS, size), all_below(size + 1))
            self.assertEqual(before_dropped(SOME_SIGN, size), without(EVERYTHING, all_below(size + 1)))
            self.assertEqual(before_dropped(ONE_A, size), then_of(all_of(size), ONE_A))
        self.assertEqual(before_taken(ONE_A, 1), machine_for(then(signs("a"), ALL)))
        self.assertEqual(before_taken(ONE_A, 2), ONE_A)
        self.assertEqual(before_taken(ONE_A, 10 ** 30), ONE_A)
        self.assertEqual(before_taken(THREE_TEXTS, 3), machine_for(
            either(words(["0", "1b"]), then(word("a01"), ALL))))
        self.assertEqual(before_replaced(NO_SIGNS, "a", ""), ONLY_A)
        self.assertEqual(before_replaced(ONE_A, "b", "a"), machine_for(signs("ab")))
        self.assertEqual(before_replaced(ONE_A, "a", "b"), NOTHING)
        self.assertEqual(before_replaced(EVERYTHING, "a", "b01"), EVERYTHING)
        self.assertEqual(before_turned(ENDS_IN_B), machine_for(then(signs("b"), ALL)))

    def test_many_states(self):
        one = line(60, lambda state: state == 58)
        self.assertEqual(before_taken(one, 10 ** 30), one)
        self.assertEqual(before_taken(one, 58), line(59, lambda state: state == 58))
        self.assertEqual(before_dropped(one, 10), all_of(68))
        self.assertEqual(before_turned(one), one)
        self.assertEqual(before_replaced(one, "a", "aa"), before_replaced(before_replaced(one, "a", "b"), "a", "ab"))


class DeedsAndWhatComesBefore(unittest.TestCase):

    def test_all_that_a_deed_makes_is_accepted_where_what_comes_before_is(self):
        source = random.Random(64)
        goals = SMALL + some_machines(65, 6, 10)
        held = set()
        for one in SMALL + some_machines(66, 6, 10):
            for goal in source.sample(goals, 12):
                size, sign, other = source.randint(0, 6), source.choice(SIGNS), some_text(source, 4)
                told_of = (one, goal, size, sign, other)
                for made, before in [
                    (taken(one, size), before_taken(goal, size)),
                    (dropped(one, size), before_dropped(goal, size)),
                    (replaced(one, sign, other), before_replaced(goal, sign, other)),
                    (turned(one), before_turned(goal)),
                ]:
                    self.assertIs(within(made, goal), within(one, before), told_of)
                    held.add(within(made, goal))
        self.assertEqual(held, {True, False})

    def test_what_comes_before_leads_back(self):
        for one in SMALL:
            for size in NUMBERS + [6]:
                self.assertIs(within(taken(before_taken(one, size), size), one), True, (one, size))
                self.assertIs(within(one, before_taken(taken(one, size), size)), True, (one, size))
                self.assertIs(within(one, before_dropped(dropped(one, size), size)), True, (one, size))
                self.assertEqual(dropped(before_dropped(one, size), size), least_of(one), (one, size))

    def test_of_two(self):
        for one, other in itertools.product(SMALL[:14], SMALL[15:30]):
            for size in [0, 1, 3]:
                both = either_of(one, other)
                self.assertEqual(taken(both, size), either_of(taken(one, size), taken(other, size)))
                self.assertEqual(dropped(both, size), either_of(dropped(one, size), dropped(other, size)))
            for instead in ["", "b", "ab"]:
                behind = then_of(replaced(one, "a", instead), replaced(other, "a", instead))
                self.assertEqual(replaced(then_of(one, other), "a", instead), behind)
            self.assertEqual(replaced(repeated(one), "b", "0b"), repeated(replaced(one, "b", "0b")))

    def test_like_states_and_states_never_reached(self):
        source = random.Random(67)
        for one in EACH_MACHINE[:12]:
            other = shuffled(source, one, 45)
            for deed in [taken, dropped, before_taken, before_dropped]:
                self.assertEqual(deed(other, 3), deed(one, 3), one)
            for deed in [replaced, before_replaced]:
                self.assertEqual(deed(other, "a", "ba"), deed(one, "a", "ba"), one)
                self.assertEqual(deed(other, "b", ""), deed(one, "b", ""), one)
            self.assertEqual(before_turned(other), before_turned(one), one)


class Lists(Least):

    def test_machine_of(self):
        self.assertEqual(machine_of([]), NOTHING)
        self.assertEqual(machine_of([""]), NO_SIGNS)
        self.assertEqual(machine_of(["", ""]), NO_SIGNS)
        self.assertEqual(machine_of(["a"]), ONE_A)
        self.assertEqual(machine_of(["a", "a", "a"]), ONE_A)
        self.assertEqual(machine_of(["a01", "0", "1b"]), least_of(THREE_TEXTS))
        self.assertEqual(machine_of(["1b", "0", "1b", "a01", "0"]), least_of(THREE_TEXTS))
        self.assertEqual(machine_of(texts_up_to(3)), all_below(4))
        self.assertEqual(machine_of(["01ab" * 15]), machine_for(word("01ab" * 15)))
        self.assertEqual(len(machine_of(["01ab" * 500])[0]), 2002)

    def test_just_these(self):
        source = random.Random(68)
        for size in range(12):
            for number in range(12):
                some = [some_text(source, 4) for text in range(size)]
                before = list(some)
                self.expect(machine_of(some), some, 5, some)
                self.assertEqual(some, before)

    def test_what_was_handed_in_may_be_changed_then(self):
        some = ["a", "b0"]
        machine = machine_of(some)
        some.clear()
        self.assertEqual(accepted(machine, 3), ["a", "b0"])

    def test_all(self):
        for size in range(5):
            self.expect(all_of(size), [text for text in texts_up_to(5) if len(text) == size], 5, size)
            self.expect(all_below(size), [text for text in texts_up_to(5) if len(text) < size], 5, size)
        self.assertEqual(all_of(0), NO_SIGNS)
        self.assertEqual(all_below(0), NOTHING)
        self.assertEqual(all_below(1), NO_SIGNS)
        self.assertEqual(all_of(40), line(42, lambda state: state == 40))
        self.assertEqual(all_below(60), line(61, lambda state: state < 60))
        self.assertEqual(everything(), EVERYTHING)
        for size in [40, 41, 60, 1000]:
            self.assertEqual(all_of(size), least_of(all_of(size)))
            self.assertEqual(all_below(size), least_of(all_below(size)))


if __name__ == "__main__":
    unittest.main()
