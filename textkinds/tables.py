"""Tables: kinds by names, some of them made of others."""

from textkinds.comparing import within
from textkinds.errors import NoName, Taken
from textkinds.machines import machine_for
from textkinds.makings import kind_of, need_givens


class Table:
    """Names, in the order in which they came, each with its machine; some are put, and some are made of others.

    A made name stays behind all that it is made of: these are there before it, and not dropped while it is.
    """

    def __init__(self):
        self.machines = {}
        # For each made name its making, and the tuple of the names that were told with it.
        self.recipes = {}

    def put(self, name, shape):
        """Gives a new name, or one that was put, the machine of the shape; tells all names that have another now."""
        if name in self.recipes:
            raise Taken(f"{name!r} was made")
        # Kept only when all is done.
        fresh = dict(self.machines)
        fresh[name] = machine_for(shape)
        for other, (making, sources) in self.recipes.items():
            if any([fresh[source] != self.machines.get(source) for source in sources]):
                fresh[other] = kind_of(making, [fresh[source] for source in sources])
        told = [other for other, machine in fresh.items() if machine != self.machines.get(other)]
        self.machines = fresh
        return told

    def make(self, name, making, names):
        """Gives a new name the kind of what the making makes of the machines of a list of names."""
        sources = tuple(names)
        machines = [self.kind(source) for source in sources]
        need_givens(making, len(machines))
        if name in self.machines:
            raise Taken(f"{name!r} is there")
        self.machines[name] = kind_of(making, machines)
        self.recipes[name] = (making, sources)

    def drop(self, name):
        """Takes a name away of which no other is made."""
        self.need_name(name)
        if self.takers_of(name):
            raise Taken(f"another name is made of {name!r}")
        del self.machines[name]
        if name in self.recipes:
            del self.recipes[name]

    def need_name(self, name):
        """Refuses a name that is not there."""
        if name not in self.machines:
            raise NoName(f"{name!r} is not there")

    def kind(self, name):
        """The machine of a name."""
        self.need_name(name)
        return self.machines[name]

    def names(self):
        """The list of all names, in their order."""
        return list(self.machines)

    def takers_of(self, name):
        """The list of all names that are made of this one, in their order."""
        told = []
        for other, (making, sources) in self.recipes.items():
            if any([source == name or source in told for source in sources]):
                told.append(other)
        return told

    def fit_into(self, name):
        """The list of all other names, in their order, whose machines accept all that the machine of this one does."""
        machine = self.kind(name)
        return [other for other, wider in self.machines.items() if other != name and within(machine, wider)]
