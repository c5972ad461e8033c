"""Machines led back to shapes."""

from textkinds.building import web_of
from textkinds.rests import EMPTY, NONE, Parts
from textkinds.shapes import SIGNS


class Drawing:
    """States with shapes between them: what leads from one to another, by their numbers among all parts.

    States are taken out one after the other, until shapes lead from the beginning to the end alone.
    """

    def __init__(self, web):
        starts, ends, edges = web
        self.parts = Parts()
        self.sizes = []
        self.begin = len(ends)
        self.end = len(ends) + 1
        self.onward = [{} for state in range(len(ends) + 2)]
        self.backward = [{} for state in range(len(ends) + 2)]
        for start in starts:
            self.lay(self.begin, start, EMPTY)
        for state, steps in enumerate(edges):
            if ends[state]:
                self.lay(state, self.end, EMPTY)
            for goal in sorted({goal for column, goal in steps}):
                some = "".join([sign for column, sign in enumerate(SIGNS) if (column, goal) in steps])
                self.lay(state, goal, self.parts.number_of(("signs", some)))

    def lay(self, state, goal, number):
        """Has one more shape lead from a state to another."""
        whole = self.parts.any_of([self.onward[state].get(goal, NONE), number])
        self.onward[state][goal] = whole
        self.backward[goal][state] = whole

    def size_of(self, number):
        """How many parts the shape of this number has."""
        while len(self.sizes) <= number:
            self.sizes.append(row_size(self.parts.rows[len(self.sizes)], self.sizes))
        return self.sizes[number]

    def comers_and_goals(self, state):
        """The lists of (other, number) of all other states from which shapes lead to this one, and to which from it."""
        return [
            [(other, number) for other, number in steps.items() if other != state]
            for steps in (self.backward[state], self.onward[state])
        ]

    def cost(self, state):
        """About how many parts more there are, if this state is taken out, and how many are around it.

        Of states that cost the same the one with the fewest around it comes first: so shapes get less deep.
        """
        comers, goals = self.comers_and_goals(state)
        ahead = sum([self.size_of(number) for other, number in comers])
        behind = sum([self.size_of(number) for other, number in goals])
        loop = self.size_of(self.onward[state].get(state, NONE))
        more = ahead * (len(goals) - 1) + behind * (len(comers) - 1) + (loop + 2) * len(comers) * len(goals)
        return more, ahead + behind

    def take_out(self, state):
        """Takes a state out, and has what led through it lead past it."""
        comers, goals = self.comers_and_goals(state)
        around = self.parts.many_of(self.onward[state].get(state, NONE))
        for other, number in comers:
            del self.onward[other][state]
        for other, number in goals:
            del self.backward[other][state]
        for other, number in comers:
            come = self.parts.one_then(number, around)
            for goal, further in goals:
                self.lay(other, goal, self.parts.one_then(come, further))


def row_size(row, sizes):
    """How many parts a row has, from those of the rows ahead of it."""
    if row[0] in ("none", "empty", "signs"):
        return 1
    if row[0] in ("or", "and"):
        return sum([sizes[number] for number in row[1]]) + len(row[1]) - 1
    return sum([sizes[number] for number in row[1:]]) + 1


def shape_of(machine):
    """A shape without and and not that just the texts fit that the machine accepts."""
    web = web_of(machine)
    drawing = Drawing(web)
    left = list(range(len(web[1])))
    while left:
        # What adds the fewest parts goes first: else shapes grow beyond all bounds much sooner.
        state = min(left, key=lambda one: drawing.cost(one))
        drawing.take_out(state)
        left.remove(state)
    return drawing.parts.told_shape(drawing.onward[drawing.begin].get(drawing.end, NONE))
