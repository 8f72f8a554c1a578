"""The nodes of a plan at work: what rows, lots, hands and walks have in common."""

from greatrows.errors import Fault, NotShut, Over, Thrown, TooMuch
from greatrows.joins import machine_of
from greatrows.plans import INPUTS, nodes_by_spot, tries_of


class Nodes:
    """The machines and the leaves of a plan by their spots, and the readings that these opened on a shelf."""

    def __init__(self, plan, shelf):
        self.machines = machines_in(plan)
        self.leaves = {spot: Leaf(node) for spot, node in leaves_in(plan)}
        self._plan = plan
        self._shelf = shelf
        # The spots of the leaves whose readings are open, in the order in which these were opened.
        self._open_spots = []
        self._not_shut = []

    def ask_leaf(self, spot, many):
        """A list of the next things of a leaf, one at least and at most so many, or of none at its end."""
        leaf = self.leaves[spot]
        if leaf.name is None:
            return leaf.next_numbers(many)
        if leaf.reading is None:
            leaf.reading = self._shelf.open_up(leaf.name)
            self._open_spots.append(spot)
        try:
            return leaf.took(self._shelf.ask_lot(leaf.reading, many))
        except Over:
            self.close_at(spot)
            return []

    def close_at(self, spot):
        """Shuts all open readings of the part at a spot, and tells the names of those where that faulted."""
        beneath = [other for other in self._open_spots if other[:len(spot)] == spot]
        self._open_spots = [other for other in self._open_spots if other not in beneath]
        names = []
        for other in beneath[::-1]:
            names.extend(self._shut(self.leaves[other]))
        self._not_shut.extend(names)
        return names

    def not_shut(self):
        """The names of the closings that faulted so far, in order."""
        return list(self._not_shut)

    def asked(self):
        """How many things came of each leaf, by the leaves' spots."""
        return {spot: leaf.many for spot, leaf in self.leaves.items()}

    def readings(self):
        """The readings of the leaves that opened one, by their spots."""
        return {spot: leaf.reading for spot, leaf in self.leaves.items() if leaf.reading is not None}

    def copied(self, shelf):
        """Nodes that stand just so on a copy of their shelf, and go their own way."""
        other = Nodes(self._plan, shelf)
        other.machines = {spot: machine.twin() for spot, machine in self.machines.items()}
        other.leaves = {spot: leaf.copied() for spot, leaf in self.leaves.items()}
        other._open_spots = list(self._open_spots)
        other._not_shut = list(self._not_shut)
        return other

    def _shut(self, leaf):
        """A list of the leaf's name where closing its reading faults, else of none."""
        try:
            self._shelf.shut(leaf.reading)
        except NotShut:
            return [leaf.name]
        return []


class Leaf:
    """A leaf of a plan at work."""

    def __init__(self, node):
        # Of a count there is no name.
        self.name = None if node[0] == "count" else node[-1]
        self.node = node
        self.reading = None
        self.many = 0
        self.tries = 0

    def next_numbers(self, many):
        """A list of the next numbers of a count, at most so many, or of none at its end."""
        _, start, step, most = self.node
        end = self.many + many if most is None else min(self.many + many, most)
        return self.took([start + step * at for at in range(self.many, end)])

    def took(self, things):
        """The things, which came of the leaf."""
        self.many += len(things)
        self.tries = 0
        return things

    def tries_again(self):
        """Whether a thing that faulted is asked for once more."""
        self.tries += 1
        return self.tries <= tries_of(self.node)

    def copied(self):
        """A leaf that stands just so, and goes its own way."""
        other = Leaf(self.node)
        other.reading = self.reading
        other.many = self.many
        other.tries = self.tries
        return other


class OneByOne:
    """A plan that is asked for one thing at a time, each node asking the input that its machine wants."""

    def __init__(self, machines):
        self.machines = machines

    def next_at(self, spot):
        """A list of the next thing of the node at a spot, or of none where it has ended."""
        if spot not in self.machines:
            return self.next_of_leaf(spot)
        machine = self.machines[spot]
        while not machine.ready() and not machine.is_over():
            self.feed(spot, machine)
        return [machine.gives()] if machine.ready() else []

    def feed(self, spot, machine):
        """Asks the input that a machine wants, once."""
        at = machine.wants()
        try:
            found = self.next_at((*spot, at))
        except (Fault, Thrown, TooMuch):
            if not machine.goes_on(at):
                raise
        else:
            if found:
                machine.takes(at, found[0])
            else:
                machine.ends(at)
        for other in machine.needless():
            self.close_at((*spot, other))

    def next_of_leaf(self, spot):
        """A list of the next thing of a leaf, or of none at its end; each kind of run has its own way to it."""
        return []

    def close_at(self, spot):
        """What is done where the part at a spot is needed no more."""

    def held_now(self):
        """How many things the machines hold together."""
        return sum([machine.held() for machine in self.machines.values()])


def machines_in(plan):
    """The machines of a plan, as new, by their spots."""
    return {spot: machine_of(node) for spot, node in nodes_by_spot(plan) if INPUTS[node[0]] > 0}


def leaves_in(plan):
    """Tuples (spot, leaf) of all leaves of a plan, in the order of the spots."""
    return [(spot, node) for spot, node in nodes_by_spot(plan) if INPUTS[node[0]] == 0]
