"""[0.3] and the interface: each name is there, takes what it should, changes nothing, and tells the same again."""

import copy
import importlib
import unittest

from tests.slow import EACH_MACHINE, EACH_WORD, ENDS_IN_B, THREE_TEXTS, line, signs, then

SHAPE = then(signs("01"), ("many", signs("ab")))
LARGE = line(60, lambda state: state % 7 == 3)
MAKING = ("then", ("turned", ("given", 1)), ("dropped", ("given", 0), 1))
# Each function with things to hand in.
CALLS = {
    "shapes": [("is_shape", (SHAPE,)), ("fits", (SHAPE, "0ab"))],
    "rests": [
        ("rest", (SHAPE, "0")),
        ("first_signs", (SHAPE,)),
        ("longest_beginning", (SHAPE, "0ab1")),
        ("stretches", (SHAPE, "0ab1")),
        ("cut_up", (SHAPE, "0ab1")),
    ],
    "machines": [
        ("is_machine", ([THREE_TEXTS, [None, "a"]],)),
        ("is_machine", (THREE_TEXTS,)),
        ("accepts", (THREE_TEXTS, "a01")),
        ("is_least", (THREE_TEXTS,)),
        ("least_of", (THREE_TEXTS,)),
        ("machine_for", (SHAPE,)),
    ],
    "texts": [
        ("is_finite", (LARGE,)),
        ("how_many", (LARGE, 5)),
        ("longest", (LARGE,)),
        ("least_text", (LARGE,)),
        ("texts_up_to", (LARGE, 3)),
        ("first_texts", (LARGE, 3)),
        ("text_at", (LARGE, 3)),
        ("rank_of", (LARGE, "ab0")),
    ],
    "algebra": [
        ("either", (LARGE, THREE_TEXTS)),
        ("both_of", (LARGE, THREE_TEXTS)),
        ("without", (LARGE, THREE_TEXTS)),
        ("other_than", (THREE_TEXTS,)),
        ("then", (LARGE, THREE_TEXTS)),
        ("repeated", (THREE_TEXTS,)),
        ("turned", (THREE_TEXTS,)),
    ],
    "comparing": [
        ("within", (LARGE, THREE_TEXTS)),
        ("parting", (LARGE, THREE_TEXTS)),
        ("meeting", (LARGE, ENDS_IN_B)),
        ("unlike", (LARGE, THREE_TEXTS)),
        ("how_they_lie", (LARGE, THREE_TEXTS)),
    ],
    "deeds": [
        ("text_taken", ("ab01", 2)),
        ("text_dropped", ("ab01", 2)),
        ("text_replaced", ("ab01", "a", "0a")),
        ("taken", (THREE_TEXTS, 2)),
        ("dropped", (THREE_TEXTS, 2)),
        ("replaced", (THREE_TEXTS, "a", "0a")),
        ("before_taken", (THREE_TEXTS, 2)),
        ("before_dropped", (THREE_TEXTS, 2)),
        ("before_replaced", (THREE_TEXTS, "a", "0a")),
        ("before_turned", (THREE_TEXTS,)),
        ("machine_of", (["a01", "0", "0"],)),
        ("all_of", (3,)),
        ("all_below", (3,)),
        ("everything", ()),
    ],
    "makings": [
        ("is_making", ([MAKING, [None, "a"]],)),
        ("is_making", (MAKING,)),
        ("is_single", (MAKING,)),
        ("givens_of", (MAKING,)),
        ("value", (MAKING, ["01", "ab"])),
        ("kind_of", (MAKING, [THREE_TEXTS, ENDS_IN_B])),
    ],
    "wants": [
        ("reaching", (MAKING, [THREE_TEXTS, ENDS_IN_B], ENDS_IN_B)),
        ("failing", (MAKING, [THREE_TEXTS, ENDS_IN_B], LARGE)),
        ("checked", (MAKING, [THREE_TEXTS, ENDS_IN_B], ENDS_IN_B)),
    ],
    "drawing": [("shape_of", (THREE_TEXTS,))],
    "writing": [("written", (SHAPE,))],
    "reading": [("read", ("(*[01] (a|!b))",))],
}


def calls():
    return [
        (name, getattr(importlib.import_module("textkinds." + module), name), handed)
        for module, rows in CALLS.items() for name, handed in rows
    ]


class Interface(unittest.TestCase):

    def test_nothing_is_changed_or_kept(self):
        for name, function, handed in calls():
            with self.subTest(name=name):
                before = copy.deepcopy(handed)
                told = function(*handed)
                again = copy.deepcopy(told)
                self.assertEqual(handed, before)
                if isinstance(told, list):
                    told.append(None)
                    told.reverse()
                self.assertEqual(function(*handed), again)
                self.assertIs(function(*handed).__class__, again.__class__)

    def test_what_was_handed_in_may_be_changed_then(self):
        module = importlib.import_module("textkinds.machines")
        thing = [THREE_TEXTS]
        self.assertIs(module.is_machine(thing), False)
        thing.clear()
        self.assertIs(module.is_machine(THREE_TEXTS), True)

    def test_each_order_of_calls_tells_the_same(self):
        machine_for = importlib.import_module("textkinds.machines").machine_for
        repeated = importlib.import_module("textkinds.algebra").repeated
        shapes = [machine_for(shape) for shape in EACH_WORD]
        machines = [repeated(machine) for machine in EACH_MACHINE]
        self.assertEqual([machine_for(shape) for shape in reversed(EACH_WORD)], shapes[::-1])
        self.assertEqual([repeated(machine) for machine in reversed(EACH_MACHINE)], machines[::-1])


if __name__ == "__main__":
    unittest.main()
