"""[8.1], [8.2] and (f) of [0.2]: givens that reach or fail a goal, and what is checked."""

import itertools
import random
import unittest

from tests.slow import EACH_MACHINE, EACH_MAKING, ENDS_IN_B, EVERYTHING, NO_SIGNS, NOTHING, ONE_A, ONLY_A, SOME_SIGN
from tests.slow import THREE_TEXTS, counting, line, many, shuffled, signs, slow_end, slow_givens, slow_value
from tests.slow import some_machines, some_makings, then
from textkinds.algebra import both_of, other_than
from textkinds.deeds import all_below, all_of, machine_of
from textkinds.errors import KindError, NoGiven, NotSingle
from textkinds.machines import machine_for
from textkinds.makings import kind_of
from textkinds.texts import first_texts, least_text
from textkinds.wants import checked, failing, reaching

GIVEN = ("given", 0)
OTHER = ("given", 1)
SOME = ("text", "ab")
TWICE = ("then", GIVEN, GIVEN)
# Stands where several givens would do.
SEVERAL = "several"
# Each with all its texts.
FINITE = [
    (NOTHING, []),
    (NO_SIGNS, [""]),
    (ONE_A, ["a"]),
    (THREE_TEXTS, ["0", "1b", "a01"]),
    (line(3, lambda state: state < 2), ["", "0", "1", "a", "b"]),
]
MACHINES = EACH_MACHINE[:15] + some_machines(101, 3, 15) + some_machines(102, 6, 10)
GOALS = EACH_MACHINE[:15] + some_machines(103, 2, 10) + some_machines(104, 4, 10)


def is_single(making):
    numbers = slow_givens(making)
    return len(numbers) == len(set(numbers))


def takes(machine, text):
    return machine[0][slow_end(machine, text)]


SINGLE = [making for making in EACH_MAKING + some_makings(105, 4, 60) + some_makings(106, 7, 120) if is_single(making)]
DOUBLE = [making for making in EACH_MAKING + some_makings(107, 6, 80) + some_makings(108, 12, 60) if not is_single(making)]


class Reaching(unittest.TestCase):

    def expect_led(self, making, machines, goal, wanted, givens):
        told_of = (making, machines, goal, givens)
        self.assertIs(givens.__class__, list, told_of)
        self.assertEqual(len(givens), len(machines), told_of)
        for machine, given in zip(machines, givens):
            self.assertIs(given.__class__, str, told_of)
            self.assertIs(takes(machine, given), True, told_of)
        self.assertIs(takes(goal, slow_value(making, givens)), wanted, told_of)

    def test_by_hand(self):
        one_or_two = machine_of(["0", "11"])
        for making, machines, goal, reached, failed in [
            (GIVEN, [ONE_A], ONE_A, ["a"], None),
            (GIVEN, [ONE_A], NOTHING, None, ["a"]),
            (GIVEN, [one_or_two], all_of(2), ["11"], ["0"]),
            (SOME, [], machine_of(["ab"]), [], None),
            (SOME, [], ONE_A, None, []),
            (SOME, [ONE_A, NO_SIGNS], EVERYTHING, ["a", ""], None),
            (("then", GIVEN, OTHER), [one_or_two, one_or_two], all_of(4), ["11", "11"], SEVERAL),
            (("then", OTHER, GIVEN), [machine_of(["a", "b"]), one_or_two], machine_of(["11b"]), ["b", "11"], SEVERAL),
            (("turned", GIVEN), [machine_of(["01", "ab"])], machine_of(["ba"]), ["ab"], ["01"]),
            (("taken", GIVEN, 1), [machine_of(["01", "ab"])], ONE_A, ["ab"], ["01"]),
            (("dropped", GIVEN, 1), [machine_of(["0", "1ab"])], NO_SIGNS, ["0"], ["1ab"]),
            (("dropped", GIVEN, 3), [machine_of(["0", "1abb"])], NO_SIGNS, ["0"], ["1abb"]),
            (("replaced", GIVEN, "b", ""), [machine_of(["bab", "b0"])], ONE_A, ["bab"], ["b0"]),
            (("replaced", GIVEN, "b", "aa"), [machine_of(["abab", "b"])], all_of(6), ["abab"], ["b"]),
            (("then", ("given", 2), GIVEN), [ONE_A, THREE_TEXTS, ONE_A], NO_SIGNS, None, SEVERAL),
        ]:
            with self.subTest(making=making, goal=goal):
                for told, expected, wanted in [
                    (reaching(making, machines, goal), reached, True),
                    (failing(making, machines, goal), failed, False),
                ]:
                    if expected == SEVERAL:
                        self.expect_led(making, machines, goal, wanted, told)
                    else:
                        self.assertEqual(told, expected)

    def test_none_are_told_where_none_do(self):
        source = random.Random(109)
        seen = set()
        for making in SINGLE:
            for number in range(3):
                some = [source.choice(FINITE) for place in range(4)]
                machines = [machine for machine, texts in some]
                goal = source.choice(GOALS)
                lists = list(itertools.product(*[texts for machine, texts in some]))
                made = {takes(goal, slow_value(making, givens)) for givens in lists}
                for told, wanted in [
                    (reaching(making, machines, goal), True),
                    (failing(making, machines, goal), False),
                ]:
                    self.assertIs(told is not None, wanted in made, (making, machines, goal))
                    seen.add(told is None)
                    if told is not None:
                        self.expect_led(making, machines, goal, wanted, told)
        self.assertEqual(seen, {True, False})

    def test_of_endless_kinds(self):
        source = random.Random(110)
        seen = set()
        for making in SINGLE:
            for number in range(3):
                machines = [source.choice(MACHINES) for place in range(4)]
                goal = source.choice(GOALS)
                there = all(least_text(machine) is not None for machine in machines)
                kind = kind_of(making, machines)
                for told, wanted, other in [
                    (reaching(making, machines, goal), True, goal),
                    (failing(making, machines, goal), False, other_than(goal)),
                ]:
                    due = there and least_text(both_of(kind, other)) is not None
                    self.assertIs(told is not None, due, (making, machines, goal))
                    seen.add(told is None)
                    if told is not None:
                        self.expect_led(making, machines, goal, wanted, told)
        self.assertEqual(seen, {True, False})

    def test_a_machine_without_texts_that_is_not_in_the_making(self):
        for making, machines in [(GIVEN, [ONE_A, NOTHING]), (OTHER, [NOTHING, ONE_A]), (SOME, [NOTHING])]:
            self.assertIsNone(reaching(making, machines, EVERYTHING))
            self.assertIsNone(failing(making, machines, NOTHING))

    def test_more_machines_than_givens(self):
        machines = [ONE_A, ENDS_IN_B, THREE_TEXTS, ONLY_A, SOME_SIGN, NO_SIGNS]
        for making in SINGLE:
            self.expect_led(making, machines, EVERYTHING, True, reaching(making, machines, EVERYTHING))
            self.expect_led(making, machines, NOTHING, False, failing(making, machines, NOTHING))

    def test_refusals(self):
        for tell in [reaching, failing]:
            for making in EACH_MAKING + some_makings(111, 6, 60):
                least = max(slow_givens(making), default=-1) + 1
                for size in range(least):
                    # Also where the making is not single, and where nothing is accepted.
                    for machine in [ONLY_A, NOTHING]:
                        with self.assertRaises(NoGiven):
                            tell(making, [machine] * size, EVERYTHING)
                if not is_single(making):
                    for machine in [ONLY_A, NOTHING]:
                        for goal in [EVERYTHING, NOTHING]:
                            with self.assertRaises(NotSingle):
                                tell(making, [machine] * least, goal)
            with self.assertRaises(KindError):
                tell(GIVEN, [], EVERYTHING)
            with self.assertRaises(KindError):
                tell(TWICE, [ONE_A], EVERYTHING)

    def test_nothing_is_changed_and_lists_are_new(self):
        for tell, goal in [(reaching, EVERYTHING), (failing, NOTHING)]:
            machines = [ENDS_IN_B, THREE_TEXTS]
            told = tell(("then", GIVEN, OTHER), machines, goal)
            self.assertEqual(machines, [ENDS_IN_B, THREE_TEXTS])
            before = list(told)
            told.clear()
            self.assertEqual(tell(("then", GIVEN, OTHER), machines, goal), before)

    def test_the_form_of_machines_does_not_matter(self):
        source = random.Random(112)
        for making in EACH_MAKING[:6] + EACH_MAKING[10:23]:
            if is_single(making):
                machines = [shuffled(source, machine, 45) for machine in [ENDS_IN_B, THREE_TEXTS, ONLY_A, SOME_SIGN]]
                for goal in [ENDS_IN_B, other_than(ONLY_A), EVERYTHING]:
                    long = shuffled(source, goal, 50)
                    for tell, wanted in [(reaching, True), (failing, False)]:
                        told = tell(making, machines, long)
                        self.assertIs(told is None, tell(making, machines, goal) is None)
                        if told is not None:
                            self.expect_led(making, machines, long, wanted, told)

    def test_many_states_and_many_parts(self):
        sixty, forty = counting(60, lambda state: state == 59), counting(40, lambda state: state == 39)
        both = ("then", GIVEN, ("turned", OTHER))
        self.expect_led(both, [sixty, forty], counting(7, lambda state: state == 3), True, reaching(
            both, [sixty, forty], counting(7, lambda state: state == 3)))
        # Together they have 98 signs, and twenties more.
        self.assertIsNone(reaching(both, [sixty, forty], counting(20, lambda state: state == 17)))
        self.assertIsNone(failing(both, [sixty, forty], counting(20, lambda state: state == 18)))
        deep = GIVEN
        for number in range(300):
            deep = ("turned", deep)
        self.assertEqual(reaching(deep, [machine_of(["ab", "b"])], all_of(2)), ["ab"])

    def test_machines_whose_kind_would_have_very_many_states(self):
        for machines in [some_machines(seed, 40, 4) for seed in range(113, 123)]:
            if any(least_text(machine) is None for machine in machines):
                continue
            making = ("turned", ("then", ("replaced", ("then", GIVEN, OTHER), "a", "b"), ("then", ("given", 2), ("given", 3))))
            self.expect_led(making, machines, EVERYTHING, True, reaching(making, machines, EVERYTHING))
            self.assertIsNone(failing(making, machines, EVERYTHING))
            self.assertEqual(checked(making, machines, EVERYTHING), "holds")
            self.assertEqual(checked(making, machines, NOTHING), "fails")


def slow_checked(making, machines, goal):
    """What is checked, by the kind and by all lists of first texts."""
    samples = [first_texts(machine, 3) for machine in machines]
    if [] in samples or least_text(both_of(kind_of(making, machines), other_than(goal))) is None:
        return "holds"
    lists = itertools.product(*samples)
    if is_single(making) or any(not takes(goal, slow_value(making, givens)) for givens in lists):
        return "fails"
    return "unsure"


class Checked(unittest.TestCase):

    def test_by_hand(self):
        evens = counting(2, lambda state: state == 0)
        for making, machines, goal, told in [
            (GIVEN, [ONE_A], ONLY_A, "holds"),
            (GIVEN, [ONLY_A], ONE_A, "fails"),
            (SOME, [], machine_of(["ab"]), "holds"),
            (SOME, [], NOTHING, "fails"),
            # Without givens all holds, also where the one without texts is not in the making.
            (GIVEN, [NOTHING], NOTHING, "holds"),
            (SOME, [NOTHING], NOTHING, "holds"),
            (GIVEN, [ONE_A, NOTHING], NOTHING, "holds"),
            (TWICE, [NOTHING], NOTHING, "holds"),
            (TWICE, [ONE_A], machine_of(["aa"]), "holds"),
            (TWICE, [ONE_A], ONE_A, "fails"),
            # Any text behind itself has an even number of signs, but the kind has others.
            (TWICE, [EVERYTHING], evens, "unsure"),
            (TWICE, [EVERYTHING], other_than(evens), "fails"),
            (("then", ("turned", GIVEN), GIVEN), [machine_of(["0", "1"])], machine_of(["00", "11"]), "unsure"),
            (("then", GIVEN, ("then", OTHER, GIVEN)), [machine_of(["0", "1"]), NO_SIGNS], machine_of(["00", "11"]), "unsure"),
            (("then", GIVEN, ("then", OTHER, GIVEN)), [machine_of(["0", "1"]), all_below(2)], machine_of(["00", "11"]), "fails"),
        ]:
            with self.subTest(making=making, goal=goal):
                self.assertEqual(checked(making, machines, goal), told)

    def test_the_first_three_texts_alone(self):
        # Of a text twice, all first ones are as wanted: just the fourth one is not.
        four = [machine_of(["0", "1", "a", "b"])]
        unlike_fourth = other_than(machine_of(["bb"]))
        self.assertEqual(checked(TWICE, four, unlike_fourth), "unsure")
        self.assertEqual(checked(TWICE, four, other_than(machine_of(["aa"]))), "fails")
        self.assertEqual(checked(TWICE, four, other_than(machine_of(["0a"]))), "unsure")
        self.assertEqual(checked(TWICE, [EVERYTHING], other_than(machine_of(["aa"]))), "unsure")
        self.assertEqual(checked(TWICE, [EVERYTHING], other_than(machine_of(["11"]))), "fails")
        self.assertEqual(checked(TWICE, [EVERYTHING], SOME_SIGN), "fails")
        both = ("then", GIVEN, ("then", OTHER, GIVEN))
        self.assertEqual(checked(both, four * 2, other_than(machine_of(["aaa"]))), "fails")
        self.assertEqual(checked(both, four * 2, other_than(machine_of(["0a0"]))), "fails")
        self.assertEqual(checked(both, four * 2, other_than(machine_of(["0b0"]))), "unsure")
        self.assertEqual(checked(("then", TWICE, TWICE), [THREE_TEXTS], other_than(machine_of(["a01" * 4]))), "fails")

    def test_as_reckoned_slowly(self):
        source = random.Random(123)
        seen = {}
        for making in SINGLE + DOUBLE:
            for number in range(4):
                machines = [source.choice(MACHINES + [EVERYTHING, ONLY_A]) for place in range(4)]
                goal = source.choice(GOALS)
                told = checked(making, machines, goal)
                self.assertEqual(told, slow_checked(making, machines, goal), (making, machines, goal))
                seen[(told, is_single(making))] = True
        self.assertEqual(sorted(seen), [
            ("fails", False), ("fails", True), ("holds", False), ("holds", True), ("unsure", False)])

    def test_holds_where_nothing_fails(self):
        source = random.Random(124)
        for making in SINGLE:
            machines = [source.choice(MACHINES) for place in range(4)]
            for goal in source.sample(GOALS, 3):
                told = checked(making, machines, goal)
                self.assertEqual(told, "holds" if failing(making, machines, goal) is None else "fails")

    def test_no_given(self):
        for making in EACH_MAKING:
            least = max(slow_givens(making), default=-1) + 1
            for size in range(least):
                for machine in [ONLY_A, NOTHING]:
                    with self.assertRaises(NoGiven):
                        checked(making, [machine] * size, EVERYTHING)
            self.assertEqual(checked(making, [ONLY_A] * least, EVERYTHING), "holds")
        with self.assertRaises(KindError):
            checked(GIVEN, [], EVERYTHING)

    def test_many_machines_that_are_not_in_the_making(self):
        machines = [EVERYTHING] * 60
        self.assertEqual(checked(TWICE, machines, counting(2, lambda state: state == 0)), "unsure")
        self.assertEqual(checked(TWICE, machines, ONE_A), "fails")
        self.assertEqual(checked(TWICE, machines + [NOTHING], ONE_A), "holds")

    def test_what_is_accepted_counts_and_not_the_form(self):
        source = random.Random(125)
        for making in EACH_MAKING:
            machines = [ENDS_IN_B, THREE_TEXTS, ONLY_A, machine_for(then(signs("0"), many(signs("b"))))]
            before = list(machines)
            for goal in [ENDS_IN_B, ONLY_A, other_than(ONE_A)]:
                told = checked(making, machines, goal)
                self.assertEqual(machines, before)
                others = [shuffled(source, machine, 45) for machine in machines]
                self.assertEqual(checked(making, others, shuffled(source, goal, 45)), told)


if __name__ == "__main__":
    unittest.main()
