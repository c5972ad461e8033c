"""[7.1], [7.2] and (f) of [0.2]: what a making is, its givens, the text and the kind that it makes."""

import itertools
import random
import unittest

from tests.slow import EACH_MACHINE, EACH_MAKING, ENDS_IN_B, EVERYTHING, NO_SIGNS, NOTHING, ONE_A, ONLY_A, THREE_TEXTS
from tests.slow import accepted, count_parts, counting, is_made_of_states, line, many, shuffled, signs, slow_givens
from tests.slow import slow_kind, slow_least, slow_value, some_machines, some_makings, some_text, texts_up_to, then
from textkinds.algebra import then as then_of, turned
from textkinds.deeds import all_of, dropped, machine_of, replaced, taken
from textkinds.errors import KindError, NoGiven
from textkinds.machines import accepts, least_of, machine_for
from textkinds.makings import givens_of, is_making, is_single, kind_of, value

GIVEN = ("given", 0)
OTHER = ("given", 1)
SOME = ("text", "ab")
EIGHT = [
    GIVEN, SOME, ("then", GIVEN, SOME), ("turned", GIVEN), ("taken", GIVEN, 2), ("dropped", GIVEN, 2),
    ("replaced", GIVEN, "a", "01"),
]
NO_MAKINGS = [
    None, True, False, 0, 1, 3, -1, "", "given", "text", "a", (), [], [GIVEN], (GIVEN,), b"text", ((),), ("",), ("given",),
    ("none",), ("empty",), ("signs", "a"), ("many", GIVEN), ("not", GIVEN), ("or", GIVEN, GIVEN), NOTHING, ["given", 0],
]


def chain(parts):
    """A making of so many parts, one within the other."""
    making = GIVEN
    for number in range(parts - 1):
        making = ("turned", making)
    return making


class IsMaking(unittest.TestCase):

    def expect(self, things, expected):
        for thing in things:
            with self.subTest(thing=thing):
                self.assertIs(is_making(thing), expected)

    def test_makings(self):
        self.expect(EIGHT + EACH_MAKING, True)
        self.expect([("given", number) for number in range(4)], True)
        self.expect([("text", text) for text in texts_up_to(4)], True)
        self.expect([("replaced", GIVEN, sign, text) for sign in "01ab" for text in texts_up_to(2)], True)
        self.expect([(word, GIVEN, size) for word in ("taken", "dropped") for size in range(7)], True)

    def test_things_that_are_no_makings(self):
        self.expect(NO_MAKINGS, False)

    def test_numbers_of_givens(self):
        numbers = [-1, 4, 5, 10 ** 30, None, True, False, "", "0", "a", (), (0,), [], [0], GIVEN, b"0"]
        self.expect([("given", number) for number in numbers], False)

    def test_texts(self):
        texts = ["c", "2", "A", " ", "a ", "ab01a", "00000", "a" * 100, "a\n", "\u0660", None, True, 0, [], ["a"], ("a",), b"a", SOME]
        self.expect([("text", text) for text in texts], False)
        self.expect([("replaced", GIVEN, "a", text) for text in texts], False)

    def test_signs_that_are_replaced(self):
        some = ["", "01", "ab", "aa", "01ab", "c", "2", " ", "A", None, True, 0, 1, [], ["a"], ("a",), b"a", GIVEN]
        self.expect([("replaced", GIVEN, sign, "a") for sign in some], False)

    def test_numbers_of_signs(self):
        sizes = [-1, 7, 8, 10 ** 30, None, True, False, "", "0", "a", (), (0,), [], [0], GIVEN, b"0"]
        self.expect([(word, GIVEN, size) for word in ("taken", "dropped") for size in sizes], False)

    def test_lists_in_the_stead_of_tuples(self):
        self.expect([list(making) for making in EIGHT], False)
        self.expect([("turned", list(making)) for making in EIGHT], False)
        self.expect([("then", GIVEN, list(making)) for making in EIGHT], False)

    def test_a_thing_too_many_or_too_few(self):
        for more in [GIVEN, "a", 0, None]:
            self.expect([making + (more,) for making in EIGHT], False)
        self.expect([making[:-1] for making in EIGHT], False)
        self.expect([("given", 0, 0), ("turned",), ("then", GIVEN), ("taken", GIVEN), ("replaced", GIVEN, "a")], False)
        self.expect([("turned", GIVEN, GIVEN), ("then", GIVEN, GIVEN, GIVEN), ("taken", 2, GIVEN)], False)

    def test_unknown_words(self):
        for word in ["Given", "give", "", "texts", "turn", "take", "drop", "replace", "reversed", " then", "or", "signs"]:
            for parts in [(), (0,), ("a",), (GIVEN,), (GIVEN, GIVEN), (GIVEN, 2), (GIVEN, "a", "b")]:
                self.expect([(word,) + parts], False)

    def test_words_that_are_no_texts(self):
        for word in [None, True, 0, ["given"], ("given",), b"given"]:
            for parts in [(), (0,), (GIVEN,), (GIVEN, GIVEN), (GIVEN, 2)]:
                self.expect([(word,) + parts], False)

    def test_no_making_in_the_stead_of_a_part(self):
        for thing in NO_MAKINGS:
            self.expect([("turned", thing), ("taken", thing, 2), ("dropped", thing, 2), ("replaced", thing, "a", "b")], False)
            self.expect([("then", GIVEN, thing), ("then", thing, GIVEN), ("then", thing, thing)], False)
            deep = ("then", SOME, ("taken", ("dropped", ("replaced", ("turned", thing), "a", ""), 0), 6))
            self.expect([deep], False)

    def test_twelve_parts_and_thirteen(self):
        for parts in range(1, 13):
            self.expect([chain(parts)], True)
        for parts in [13, 14, 21]:
            self.expect([chain(parts)], False)
        for making in some_makings(71, 12, 150):
            self.assertEqual(count_parts(making), 12)
            self.expect([making], True)
            self.expect([("turned", making), ("taken", making, 0), ("dropped", making, 6)], False)
            self.expect([("then", making, GIVEN), ("then", SOME, making), ("replaced", making, "a", "")], False)
        tree = ("then", ("then", GIVEN, GIVEN), ("then", GIVEN, GIVEN))
        self.expect([("then", tree, ("then", SOME, OTHER)), ("turned", ("then", tree, ("then", SOME, OTHER)))], True)
        self.expect([("then", tree, tree), ("turned", ("turned", ("then", tree, ("then", SOME, OTHER))))], False)

    def test_things_some_twenty_deep(self):
        for begin in [GIVEN, None, 7, "a", [], True]:
            wide, pair, nest, lists = begin, begin, begin, begin
            for number in range(22):
                wide, pair, nest, lists = ("then", wide, wide), (pair, pair), (nest,), [lists, lists]
            for thing in [wide, pair, nest, lists, ("then", GIVEN, pair), ("taken", lists, 2), ("taken", GIVEN, nest)]:
                self.assertIs(is_making(thing), False)


class Givens(unittest.TestCase):

    def test_by_hand(self):
        for making, numbers in [
            (GIVEN, [0]),
            (("given", 3), [3]),
            (SOME, []),
            (("then", OTHER, GIVEN), [1, 0]),
            (("then", ("then", ("given", 3), SOME), ("then", OTHER, GIVEN)), [3, 1, 0]),
            (("then", ("taken", OTHER, 2), ("dropped", OTHER, 2)), [1, 1]),
            (("replaced", ("turned", ("then", ("given", 2), ("then", GIVEN, ("given", 2)))), "a", "b"), [2, 0, 2]),
        ]:
            with self.subTest(making=making):
                self.assertEqual(givens_of(making), numbers)
                self.assertIs(is_single(making), len(numbers) == len(set(numbers)))

    def test_all_makings(self):
        for making in EACH_MAKING + some_makings(72, 5, 60) + some_makings(73, 12, 100) + some_makings(74, 30, 30):
            numbers = slow_givens(making)
            self.assertEqual(givens_of(making), numbers)
            self.assertIs(is_single(making), all(numbers.count(number) == 1 for number in numbers))

    def test_told_lists_are_new(self):
        making = ("then", GIVEN, OTHER)
        told = givens_of(making)
        told.append(7)
        self.assertEqual(givens_of(making), [0, 1])

    def test_makings_of_very_many_parts(self):
        self.assertEqual(givens_of(chain(3000)), [0])
        self.assertIs(is_single(chain(3000)), True)
        wide = GIVEN
        for number in range(2000):
            wide = ("then", wide, OTHER)
        self.assertEqual(givens_of(wide), [0] + [1] * 2000)
        self.assertIs(is_single(wide), False)


class Value(unittest.TestCase):

    def test_by_hand(self):
        for making, givens, text in [
            (GIVEN, ["ab"], "ab"),
            (OTHER, ["ab", "01"], "01"),
            (SOME, [], "ab"),
            (("text", ""), ["0"], ""),
            (("then", GIVEN, OTHER), ["ab", "01"], "ab01"),
            (("then", GIVEN, GIVEN), ["ab"], "abab"),
            (("turned", GIVEN), ["ab01"], "10ba"),
            (("taken", GIVEN, 2), ["ab01"], "ab"),
            (("taken", GIVEN, 6), ["ab01"], "ab01"),
            (("taken", GIVEN, 0), ["ab01"], ""),
            (("dropped", GIVEN, 2), ["ab01"], "01"),
            (("dropped", GIVEN, 6), ["ab01"], ""),
            (("dropped", GIVEN, 0), ["ab01"], "ab01"),
            (("replaced", GIVEN, "a", "aba"), ["aba"], "abababa"),
            (("replaced", GIVEN, "a", ""), ["aba"], "b"),
            (("replaced", ("replaced", GIVEN, "0", "1"), "1", "0"), ["01"], "00"),
            (("taken", ("turned", ("then", GIVEN, SOME)), 3), ["01"], "ba1"),
            (("turned", ("taken", ("then", GIVEN, SOME), 3)), ["01"], "a10"),
        ]:
            with self.subTest(making=making, givens=givens):
                self.assertEqual(value(making, givens), text)

    def test_all_makings(self):
        source = random.Random(75)
        for making in EACH_MAKING + some_makings(76, 4, 60) + some_makings(77, 12, 60) + some_makings(78, 20, 20):
            for number in range(4):
                givens = [some_text(source, 6) for place in range(source.randint(4, 6))]
                before = list(givens)
                self.assertEqual(value(making, givens), slow_value(making, givens), (making, givens))
                self.assertEqual(givens, before)

    def test_no_given(self):
        for making in EACH_MAKING + some_makings(79, 6, 60):
            least = max(slow_givens(making), default=-1) + 1
            for size in range(6):
                givens = ["ab"] * size
                if size < least:
                    with self.assertRaises(NoGiven):
                        value(making, givens)
                    with self.assertRaises(KindError):
                        value(making, givens)
                else:
                    self.assertEqual(value(making, givens), slow_value(making, givens))

    def test_no_given_where_nothing_of_it_would_be_left(self):
        for making in [("taken", OTHER, 0), ("then", GIVEN, ("taken", ("given", 3), 0))]:
            with self.assertRaises(NoGiven):
                value(making, ["a"])

    def test_givens_somewhat_beyond(self):
        self.assertEqual(value(("given", 4), list("ab01a")), "a")
        self.assertEqual(value(("taken", ("given", 5), 7), [""] * 5 + ["0" * 9]), "0" * 7)
        self.assertEqual(value(("then", SOME, ("text", "ab01a")), []), "abab01a")
        for number in [-1, 4, 5]:
            with self.assertRaises(NoGiven):
                value(("given", number), list("ab01"))

    def test_makings_of_very_many_parts(self):
        self.assertEqual(value(chain(3000), ["ab"]), "ba")
        self.assertEqual(value(chain(3001), ["ab"]), "ab")
        grown = GIVEN
        for number in range(9):
            grown = ("replaced", grown, "a", "aaaa")
        self.assertEqual(value(grown, ["ab"]), "a" * 4 ** 9 + "b")


# Each with all its texts.
FINITE = [
    (NOTHING, []),
    (NO_SIGNS, [""]),
    (ONE_A, ["a"]),
    (THREE_TEXTS, ["0", "1b", "a01"]),
    (line(3, lambda state: state == 1), ["0", "1", "a", "b"]),
]
INFINITE = [EVERYTHING, ONLY_A, ENDS_IN_B, counting(2, lambda state: state == 1), machine_for(many(signs("01")))]


def step_by_step(making, machines):
    """The kind of a making by the deeds on machines, one after the other."""
    word = making[0]
    if word == "given":
        return least_of(machines[making[1]])
    if word == "text":
        return machine_of([making[1]])
    one = step_by_step(making[1], machines)
    if word == "then":
        return then_of(one, step_by_step(making[2], machines))
    if word == "turned":
        return turned(one)
    return {"taken": taken, "dropped": dropped, "replaced": replaced}[word](one, *making[2:])


class KindOf(unittest.TestCase):

    def test_of_finitely_many_texts(self):
        source = random.Random(80)
        for making in EACH_MAKING + some_makings(81, 5, 40) + some_makings(82, 9, 30):
            for number in range(3):
                some = [source.choice(FINITE) for place in range(4)]
                right = slow_kind(making, [texts for machine, texts in some])
                told = kind_of(making, [machine for machine, texts in some])
                self.assertEqual(told, machine_of(sorted(right)), (making, some))

    def test_step_by_step(self):
        source = random.Random(83)
        machines = INFINITE + EACH_MACHINE[:14] + some_machines(84, 3, 20)
        for making in EACH_MAKING + some_makings(85, 4, 60) + some_makings(86, 7, 60) + some_makings(87, 12, 40):
            for number in range(3):
                some = [source.choice(machines) for place in range(4)]
                told = kind_of(making, some)
                self.assertEqual(told, step_by_step(making, some), (making, some))
                self.assertIs(is_made_of_states(told), True)
                if len(told[0]) <= 30:
                    self.assertEqual(told, slow_least(told))

    def test_by_hand(self):
        for making, machines, kind in [
            (GIVEN, [THREE_TEXTS], least_of(THREE_TEXTS)),
            (SOME, [], machine_of(["ab"])),
            (("text", ""), [NOTHING], NO_SIGNS),
            # A given that is in the making twice is any text each time.
            (("then", GIVEN, GIVEN), [machine_of(["0", "1"])], machine_of(["00", "01", "10", "11"])),
            (("then", GIVEN, OTHER), [ONLY_A, NOTHING], NOTHING),
            (("taken", ("then", GIVEN, OTHER), 0), [ONLY_A, NOTHING], NOTHING),
            (("then", GIVEN, SOME), [EVERYTHING], machine_for(then(("not", ("none",)), then(signs("a"), signs("b"))))),
            (("turned", GIVEN), [ENDS_IN_B], machine_for(then(signs("b"), ("not", ("none",))))),
            (("taken", GIVEN, 1), [ENDS_IN_B], machine_of(["0", "1", "a", "b"])),
            (("dropped", GIVEN, 6), [ONLY_A], ONLY_A),
            (("replaced", GIVEN, "a", ""), [ONLY_A], NO_SIGNS),
            (("replaced", GIVEN, "b", "a"), [machine_for(many(signs("ab")))], ONLY_A),
        ]:
            with self.subTest(making=making):
                self.assertEqual(kind_of(making, machines), kind)

    def test_what_is_made_is_of_the_kind(self):
        source = random.Random(88)
        for making in EACH_MAKING + some_makings(89, 8, 60):
            some = [source.choice(INFINITE + [THREE_TEXTS, NO_SIGNS]) for place in range(4)]
            kind = kind_of(making, some)
            for number in range(8):
                givens = [source.choice(accepted(machine, 3)) for machine in some]
                self.assertIs(accepts(kind, value(making, givens)), True, (making, some, givens))

    def test_each_text_of_the_kind_can_be_made(self):
        for making in EACH_MAKING + some_makings(90, 6, 80):
            if not is_single(making):
                continue
            some = [machine for machine, texts in FINITE[1:]]
            made = {value(making, givens) for givens in itertools.product(*[texts for machine, texts in FINITE[1:]])}
            self.assertEqual(kind_of(making, some), machine_of(sorted(made)), making)

    def test_no_given(self):
        for making in EACH_MAKING + some_makings(91, 6, 60):
            least = max(slow_givens(making), default=-1) + 1
            for size in range(least):
                with self.assertRaises(NoGiven):
                    kind_of(making, [ONLY_A] * size)
                with self.assertRaises(NoGiven):
                    kind_of(making, [NOTHING] * size)
            for size in [least, least + 1]:
                self.assertEqual(kind_of(making, [ONE_A] * size), machine_of([slow_value(making, ["a"] * size)]))
        with self.assertRaises(NoGiven):
            kind_of(("given", -1), [ONLY_A])

    def test_machines_are_not_changed_and_their_form_does_not_matter(self):
        source = random.Random(92)
        for making in EACH_MAKING:
            some = [THREE_TEXTS, ENDS_IN_B, ONLY_A, counting(6, lambda state: state % 2 == 0)]
            before = list(some)
            kind = kind_of(making, some)
            self.assertEqual(some, before)
            self.assertEqual(kind_of(making, [shuffled(source, machine, 40) for machine in some]), kind)

    def test_many_parts_and_many_states(self):
        self.assertEqual(kind_of(chain(301), [ENDS_IN_B]), ENDS_IN_B)
        wide = GIVEN
        for number in range(40):
            wide = ("then", wide, OTHER)
        self.assertEqual(kind_of(wide, [ONE_A, machine_of(["b"])]), machine_of(["a" + "b" * 40]))
        sixty = counting(60, lambda state: state == 0)
        self.assertEqual(kind_of(("then", GIVEN, ("turned", OTHER)), [sixty, sixty]), sixty)
        self.assertEqual(kind_of(("taken", GIVEN, 20), [ONLY_A]), machine_of(["a" * number for number in range(21)]))

    def test_texts_that_grow_deed_by_deed(self):
        grown = GIVEN
        for number in range(6):
            grown = ("replaced", grown, "a", "aaaa")
        self.assertEqual(kind_of(grown, [ONE_A]), machine_of(["a" * 4096]))
        self.assertEqual(kind_of(("dropped", grown, 6), [machine_of(["a", "0"])]), machine_of(["a" * 4090, ""]))

    def test_deeds_that_would_grow_if_each_were_made_a_machine(self):
        # Of what lies within, told by the last sign but 18, the least machine has half a million states.
        making = ("turned", ("then", GIVEN, ("then", ("text", "a"), OTHER)))
        right = then_of(all_of(18), then_of(ONE_A, EVERYTHING))
        self.assertEqual(kind_of(making, [EVERYTHING, all_of(18)]), right)
        self.assertEqual(kind_of(("taken", making, 19), [EVERYTHING, all_of(18)]), then_of(all_of(18), ONE_A))


if __name__ == "__main__":
    unittest.main()
