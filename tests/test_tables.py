"""[9.1], [9.2] and (g) of [0.2]: tables, names that are put and made, and what is made anew."""

import copy
import random
import unittest

from tests.slow import ALL, ANY_SIGN, EMPTY, EVERYTHING, NO_SIGNS, NONE, NOTHING, either, many, other_than, signs
from tests.slow import slow_givens, some_makings, some_shape, then
from textkinds.algebra import then as then_of, turned
from textkinds.comparing import within
from textkinds.deeds import machine_of, taken
from textkinds.errors import KindError, NoGiven, NoName, Taken
from textkinds.machines import machine_for
from textkinds.makings import kind_of
from textkinds.tables import Table

A = signs("a")
B = signs("b")
GIVEN = ("given", 0)
OTHER = ("given", 1)
BOTH = ("then", GIVEN, OTHER)
TURNED = ("turned", GIVEN)


def state(table):
    """All that a table tells of itself."""
    names = table.names()
    return [(name, table.kind(name), table.takers_of(name), table.fit_into(name)) for name in names]


def some_table():
    """A table of two names that are put and three that are made: c of a and b, d of c, and e of b."""
    table = Table()
    table.put("a", A)
    table.put("b", many(B))
    table.make("c", BOTH, ["a", "b"])
    table.make("d", TURNED, ["c"])
    table.make("e", ("text", "01"), ["b"])
    return table


class Refusing(unittest.TestCase):

    def expect_refused(self, table, error, deed, *handed):
        before = state(table)
        with self.assertRaises(error) as caught:
            getattr(table, deed)(*handed)
        self.assertIs(caught.exception.__class__, error)
        self.assertIsInstance(caught.exception, KindError)
        self.assertEqual(state(table), before)


class Putting(Refusing):

    def test_without_names(self):
        table = Table()
        self.assertEqual(table.names(), [])
        self.assertEqual(table.takers_of("a"), [])
        self.expect_refused(table, NoName, "kind", "a")
        self.expect_refused(table, NoName, "drop", "a")
        self.expect_refused(table, NoName, "fit_into", "a")
        self.expect_refused(table, NoName, "make", "a", GIVEN, ["b"])

    def test_new_names(self):
        table = Table()
        for name, shape in [("b", A), ("a", many(A)), ("", NONE), ("A name", ALL), ("0", EMPTY)]:
            self.assertEqual(table.put(name, shape), [name])
            self.assertEqual(table.kind(name), machine_for(shape))
        self.assertEqual(table.names(), ["b", "a", "", "A name", "0"])

    def test_the_same_shape_again(self):
        table = some_table()
        before = state(table)
        self.assertEqual(table.put("a", A), [])
        self.assertEqual(state(table), before)

    def test_another_shape_of_the_same_machine(self):
        table = some_table()
        before = state(table)
        self.assertEqual(table.put("a", other_than(other_than(A))), [])
        self.assertEqual(table.put("b", either(EMPTY, then(B, many(B)))), [])
        self.assertEqual(state(table), before)

    def test_another_machine(self):
        table = some_table()
        self.assertEqual(table.put("a", B), ["a", "c", "d"])
        self.assertEqual(table.names(), ["a", "b", "c", "d", "e"])
        self.assertEqual(table.kind("a"), machine_for(B))
        self.assertEqual(table.kind("c"), machine_for(then(B, many(B))))
        self.assertEqual(table.kind("d"), machine_for(then(B, many(B))))
        # A name that is made of it, but has the same kind as before, is not told.
        self.assertEqual(table.put("b", signs("01")), ["b", "c", "d"])
        self.assertEqual(table.kind("c"), machine_of(["b0", "b1"]))
        self.assertEqual(table.kind("d"), machine_of(["0b", "1b"]))
        self.assertEqual(table.kind("e"), machine_of(["01"]))

    def test_what_stays_the_same_stops_there(self):
        table = Table()
        table.put("one", ANY_SIGN)
        table.make("nothing", ("taken", GIVEN, 0), ["one"])
        table.make("behind", BOTH, ["nothing", "one"])
        table.make("far", TURNED, ["nothing"])
        self.assertEqual(table.put("one", A), ["one", "behind"])
        self.assertEqual(table.put("one", NONE), ["one", "nothing", "behind", "far"])
        self.assertEqual([table.kind(name) for name in table.names()], [NOTHING] * 4)
        self.assertEqual(table.put("one", EMPTY), ["one", "nothing", "behind", "far"])
        self.assertEqual([table.kind(name) for name in table.names()], [NO_SIGNS] * 4)

    def test_a_name_that_was_made(self):
        table = some_table()
        for name in ["c", "d", "e"]:
            self.expect_refused(table, Taken, "put", name, A)
            self.expect_refused(table, Taken, "put", name, NONE)

    def test_shapes_of_more_parts(self):
        table = Table()
        deep = A
        for number in range(100):
            deep = other_than(deep)
        table.put("deep", deep)
        self.assertEqual(table.kind("deep"), machine_for(A))


class Making(Refusing):

    def test_tells_nothing(self):
        table = Table()
        table.put("a", A)
        self.assertIsNone(table.make("b", TURNED, ["a"]))
        self.assertIsNone(table.make("c", ("text", "0"), []))
        self.assertEqual(table.names(), ["a", "b", "c"])

    def test_kinds(self):
        table = some_table()
        self.assertEqual(table.kind("c"), machine_for(then(A, many(B))))
        self.assertEqual(table.kind("d"), machine_for(then(many(B), A)))
        self.assertEqual(table.kind("e"), machine_of(["01"]))
        table.make("f", ("then", GIVEN, GIVEN), ["c"])
        self.assertEqual(table.kind("f"), then_of(table.kind("c"), table.kind("c")))
        table.make("g", BOTH, ["d", "d", "a"])
        self.assertEqual(table.kind("g"), then_of(table.kind("d"), table.kind("d")))

    def test_names_are_in_their_order(self):
        table = some_table()
        table.make("f", BOTH, ["b", "a"])
        self.assertEqual(table.kind("f"), machine_for(then(many(B), A)))
        table.make("g", OTHER, ["b", "a"])
        self.assertEqual(table.kind("g"), machine_for(A))

    def test_a_list_that_is_changed_then(self):
        table = some_table()
        names = ["a", "b"]
        table.make("f", BOTH, names)
        self.assertEqual(names, ["a", "b"])
        names.reverse()
        names.append("nowhere")
        self.assertEqual(table.put("b", B), ["b", "c", "d", "f"])
        self.assertEqual(table.kind("f"), machine_of(["ab"]))
        self.assertEqual(table.takers_of("a"), ["c", "d", "f"])

    def test_refusals(self):
        table = some_table()
        self.expect_refused(table, NoName, "make", "f", GIVEN, ["x"])
        self.expect_refused(table, NoName, "make", "f", BOTH, ["a", "x"])
        # Also where the name is in the list, but not in the making.
        self.expect_refused(table, NoName, "make", "f", GIVEN, ["a", "x"])
        self.expect_refused(table, NoName, "make", "f", GIVEN, ["f"])
        self.expect_refused(table, NoGiven, "make", "f", GIVEN, [])
        self.expect_refused(table, NoGiven, "make", "f", BOTH, ["a"])
        self.expect_refused(table, NoGiven, "make", "f", ("given", 3), ["a", "b", "c"])
        for name in ["a", "c", "d"]:
            self.expect_refused(table, Taken, "make", name, GIVEN, ["b"])
            self.expect_refused(table, Taken, "make", name, GIVEN, [name])

    def test_the_refusal_told_first_comes_first(self):
        table = some_table()
        self.expect_refused(table, NoName, "make", "f", OTHER, ["x"])
        self.expect_refused(table, NoName, "make", "a", GIVEN, ["x"])
        self.expect_refused(table, NoName, "make", "a", OTHER, ["x"])
        self.expect_refused(table, NoGiven, "make", "a", OTHER, ["b"])
        self.expect_refused(table, NoGiven, "make", "c", ("taken", OTHER, 0), ["b"])

    def test_makings_of_more_parts(self):
        table = some_table()
        making = GIVEN
        for number in range(51):
            making = ("turned", making)
        table.make("f", making, ["c"])
        self.assertEqual(table.kind("f"), table.kind("d"))


class Dropping(Refusing):

    def test_refusals(self):
        table = some_table()
        for name in ["a", "b", "c"]:
            self.expect_refused(table, Taken, "drop", name)
        for name in ["x", "", "aa"]:
            self.expect_refused(table, NoName, "drop", name)
            self.expect_refused(table, NoName, "kind", name)

    def test_a_name_of_which_a_making_has_no_given_is_used_all_the_same(self):
        table = Table()
        table.put("a", A)
        table.put("b", B)
        table.make("c", GIVEN, ["a", "b"])
        self.expect_refused(table, Taken, "drop", "b")
        self.assertEqual(table.takers_of("b"), ["c"])
        self.assertEqual(table.put("b", NONE), ["b"])
        table.drop("c")
        table.drop("b")
        self.assertEqual(table.names(), ["a"])

    def test_dropped(self):
        table = some_table()
        self.assertIsNone(table.drop("e"))
        self.assertEqual(table.names(), ["a", "b", "c", "d"])
        self.expect_refused(table, NoName, "kind", "e")
        self.expect_refused(table, NoName, "drop", "e")
        self.expect_refused(table, NoName, "fit_into", "e")
        self.expect_refused(table, NoName, "make", "f", GIVEN, ["e"])
        self.assertEqual(table.takers_of("e"), [])
        table.drop("d")
        table.drop("c")
        table.drop("a")
        self.assertEqual(table.names(), ["b"])
        self.assertEqual(table.takers_of("b"), [])
        self.assertEqual(table.put("b", A), ["b"])

    def test_put_or_made_again(self):
        table = some_table()
        table.drop("d")
        # A name that was made may be put, when it was dropped; it comes last then.
        self.assertEqual(table.put("d", B), ["d"])
        self.assertEqual(table.names(), ["a", "b", "c", "e", "d"])
        self.assertEqual(table.kind("d"), machine_for(B))
        self.assertEqual(table.put("a", B), ["a", "c"])
        self.assertEqual(table.put("d", A), ["d"])
        table.drop("d")
        table.drop("e")
        table.make("e", TURNED, ["a"])
        self.assertEqual(table.names(), ["a", "b", "c", "e"])
        self.assertEqual(table.takers_of("a"), ["c", "e"])
        self.assertEqual(table.takers_of("b"), ["c"])
        table.drop("c")
        table.drop("e")
        table.drop("a")
        table.make("a", ("text", "b"), [])
        self.assertEqual(table.names(), ["b", "a"])
        self.expect_refused(table, Taken, "put", "a", A)
        self.assertEqual(table.kind("a"), machine_of(["b"]))

    def test_the_order_of_names_that_came_again(self):
        table = Table()
        for name in "abc":
            table.put(name, A)
        table.drop("a")
        table.put("a", A)
        self.assertEqual(table.names(), ["b", "c", "a"])
        table.put("b", B)
        self.assertEqual(table.names(), ["b", "c", "a"])
        table.make("d", BOTH, ["a", "b"])
        table.make("e", BOTH, ["b", "a"])
        table.drop("d")
        table.make("d", BOTH, ["a", "b"])
        self.assertEqual(table.names(), ["b", "c", "a", "e", "d"])
        self.assertEqual(table.takers_of("a"), ["e", "d"])
        self.assertEqual(table.put("a", many(A)), ["a", "e", "d"])


class Asking(Refusing):

    def test_takers_of(self):
        table = some_table()
        self.assertEqual([table.takers_of(name) for name in "abcde"], [["c", "d"], ["c", "d", "e"], ["d"], [], []])
        self.assertEqual(table.takers_of("x"), [])
        table.make("f", BOTH, ["e", "d"])
        self.assertEqual([table.takers_of(name) for name in "abcdef"], [
            ["c", "d", "f"], ["c", "d", "e", "f"], ["d", "f"], ["f"], ["f"], []])

    def test_fit_into(self):
        table = Table()
        table.put("all", ALL)
        table.put("a", A)
        table.put("many", many(A))
        table.put("same", other_than(other_than(A)))
        table.put("none", NONE)
        self.assertEqual(table.fit_into("a"), ["all", "many", "same"])
        self.assertEqual(table.fit_into("same"), ["all", "a", "many"])
        self.assertEqual(table.fit_into("many"), ["all"])
        self.assertEqual(table.fit_into("all"), [])
        self.assertEqual(table.fit_into("none"), ["all", "a", "many", "same"])
        table.make("taken", ("taken", GIVEN, 1), ["many"])
        self.assertEqual(table.fit_into("taken"), ["all", "many"])
        self.assertEqual(table.fit_into("a"), ["all", "many", "same", "taken"])
        table.put("many", B)
        self.assertEqual(table.fit_into("taken"), ["all", "many"])
        self.assertEqual(table.fit_into("a"), ["all", "same"])
        self.expect_refused(table, NoName, "fit_into", "x")

    def test_told_lists_are_new(self):
        table = some_table()
        before = state(table)
        for tell in [table.names, lambda: table.takers_of("a"), lambda: table.fit_into("a"), lambda: table.put("a", A)]:
            told = tell()
            self.assertIs(told.__class__, list)
            again = list(told)
            told.append("x")
            told.reverse()
            self.assertEqual(tell(), again)
        told = table.put("a", B)
        told.clear()
        self.assertEqual(table.put("a", A), ["a", "c", "d"])
        self.assertEqual(state(table), before)

    def test_tables_know_nothing_of_one_another(self):
        one, other = some_table(), Table()
        self.assertEqual(other.names(), [])
        other.put("a", B)
        self.assertEqual(one.kind("a"), machine_for(A))
        self.assertEqual(other.takers_of("a"), [])
        other.make("c", ("text", "0"), [])
        one.drop("d")
        self.assertEqual(other.names(), ["a", "c"])
        self.assertEqual(one.names(), ["a", "b", "c", "e"])
        self.assertEqual(one.kind("c"), machine_for(then(A, many(B))))


class Model:
    """A table, reckoned slowly: of each name what was told of it, and nothing else."""

    def __init__(self):
        self.told = []

    def names(self):
        return [name for name, thing in self.told]

    def kind(self, name):
        shape_or_making = dict(self.told)[name]
        if shape_or_making[0] == "put":
            return machine_for(shape_or_making[1])
        return kind_of(shape_or_making[1], [self.kind(other) for other in shape_or_making[2]])

    def is_made_of(self, name, other):
        thing = dict(self.told).get(name, ("put",))
        return thing[0] == "made" and any(source == other or self.is_made_of(source, other) for source in thing[2])

    def takers_of(self, name):
        return [other for other in self.names() if self.is_made_of(other, name)]

    def put(self, name, shape):
        before = {other: self.kind(other) for other in self.names()}
        if name in self.names():
            if dict(self.told)[name][0] == "made":
                return Taken
            self.told[self.names().index(name)] = (name, ("put", shape))
        else:
            self.told.append((name, ("put", shape)))
        return [other for other in self.names() if before.get(other) != self.kind(other)]

    def make(self, name, making, names):
        if not all(other in self.names() for other in names):
            return NoName
        if not all(number < len(names) for number in slow_givens(making)):
            return NoGiven
        if name in self.names():
            return Taken
        self.told.append((name, ("made", making, list(names))))
        return None

    def drop(self, name):
        if name not in self.names():
            return NoName
        if self.takers_of(name):
            return Taken
        del self.told[self.names().index(name)]
        return None


class LongRuns(unittest.TestCase):

    def told_or_refused(self, deed, *handed):
        try:
            return deed(*handed)
        except KindError as error:
            return error.__class__

    def step(self, source, table, model, makings):
        name = source.choice("abcdefg")
        word = source.choice(["put", "put", "put", "make", "make", "make", "drop"])
        known = table.names() if table.names() and source.random() < 0.8 else list("abcdefg")
        if word == "put":
            handed = [name, some_shape(source, source.randint(1, 4))]
        elif word == "make":
            handed = [name, source.choice(makings), [source.choice(known) for place in range(source.randint(0, 4))]]
        else:
            handed = [name]
        before = copy.deepcopy(handed)
        told = self.told_or_refused(getattr(table, word), *handed)
        self.assertEqual(handed, before)
        self.assertEqual(told, getattr(model, word)(*before), (word, handed))
        if word == "make":
            handed[2].clear()
        return told

    def test_as_reckoned_slowly(self):
        seen = []
        makings = some_makings(181, 1, 10) + some_makings(182, 2, 20) + some_makings(183, 3, 20) + [TURNED, BOTH]
        for seed in range(184, 199):
            source = random.Random(seed)
            table, model = Table(), Model()
            for number in range(70):
                seen.append(self.step(source, table, model, makings))
                self.assertEqual(table.names(), model.names())
            for name in "abcdefg":
                self.assertEqual(table.takers_of(name), model.takers_of(name))
            for name in table.names():
                kind = model.kind(name)
                self.assertEqual(table.kind(name), kind)
                wider = [other for other in model.names() if other != name and within(kind, model.kind(other))]
                self.assertEqual(table.fit_into(name), wider)
        for answer in [None, Taken, NoName, NoGiven, []]:
            self.assertIn(answer, seen)
        self.assertGreater(max(len(told) for told in seen if isinstance(told, list)), 2)

    def test_each_made_name_has_the_kind_of_the_others_as_they_are_now(self):
        table = some_table()
        for shape in [B, NONE, ALL, EMPTY, then(A, B), many(then(A, B)), A]:
            for name in ["a", "b"]:
                table.put(name, shape)
                self.assertEqual(table.kind("c"), then_of(table.kind("a"), table.kind("b")))
                self.assertEqual(table.kind("d"), turned(table.kind("c")))

    def test_a_long_chain(self):
        table = Table()
        table.put("0", A)
        for number in range(1, 60):
            table.make(str(number), ("taken", BOTH, 3), [str(number - 1), "0"])
        self.assertEqual(table.kind("59"), machine_of(["aaa"]))
        self.assertEqual(table.takers_of("0"), [str(number) for number in range(1, 60)])
        self.assertEqual(table.put("0", B), [str(number) for number in range(60)])
        self.assertEqual(table.put("0", ALL), [str(number) for number in range(60)])
        self.assertEqual(table.kind("59"), taken(EVERYTHING, 3))


if __name__ == "__main__":
    unittest.main()
