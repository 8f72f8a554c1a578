"""Rows: a plan run on a shelf, asked for one thing at a time."""

from greatrows.errors import Fault, NoPlan, NoShelf, NotShut, Over, Thrown, TooMuch, Waits
from greatrows.joins import machine_of
from greatrows.plans import INPUTS, is_plan, nodes_by_spot
from greatrows.shelves import Shelf, check_names

MOST_ASKS = 200


def row_of(plan, shelf):
    """A row that runs the plan on the shelf."""
    if not is_plan(plan):
        raise NoPlan(plan)
    if not isinstance(shelf, Shelf):
        raise NoShelf(shelf)
    check_names(plan, shelf)
    return Row(plan, shelf)


class Row:
    """A plan at work on a shelf, which are known to fit; `row_of` makes sure of that."""

    def __init__(self, plan, shelf):
        self._shelf = shelf
        self._machines = {}
        self._leaves = {}
        for spot, node in nodes_by_spot(plan):
            if INPUTS[node[0]] == 0:
                self._leaves[spot] = Leaf(node)
            else:
                self._machines[spot] = machine_of(node)
        # The spots of the leaves whose readings are open, in the order in which these were opened.
        self._open_spots = []
        self._not_shut = []
        self._has_ended = False
        self._many = 0
        # Of the ask that goes on: how many asks of leaves there were, and the word that is thrown in, if any.
        self._asks = 0
        self._words = []

    def ask(self):
        """The next thing."""
        return self._told([])

    def throw(self, word):
        """The next thing, where the first leaf that would be asked faults."""
        return self._told([word])

    def close(self):
        """Shuts all that is open, which is nothing where the row is over; it is over then."""
        names = self._finish()
        if names:
            raise NotShut(names)

    def not_shut(self):
        """The names of the closings that faulted so far, in order."""
        return list(self._not_shut)

    def is_over(self):
        """Whether its end or a fault was met, or it was closed."""
        return self._has_ended

    def told_many(self):
        """How many things it told."""
        return self._many

    def held(self):
        """How many things its machines hold together."""
        return sum([machine.held() for machine in self._machines.values()])

    def asked(self):
        """How many things came of each leaf, by the leaves' spots."""
        return {spot: leaf.many for spot, leaf in self._leaves.items()}

    def readings(self):
        """The readings of the leaves that opened one, by their spots."""
        return {spot: leaf.reading for spot, leaf in self._leaves.items() if leaf.reading is not None}

    def rest(self):
        """The rest that the machine of the whole plan tells, or None."""
        return self._machines[()].rest() if self._machines else None

    def _told(self, words):
        if self._has_ended:
            raise Over()
        self._asks = 0
        self._words = words
        try:
            found = self._next_at(())
        except (Fault, Thrown, TooMuch):
            self._finish()
            raise
        if not found:
            self._finish()
            raise Over()
        self._many += 1
        return found[0]

    def _next_at(self, spot):
        """A list of the next thing of the node at a spot, or of none where it has ended."""
        if spot in self._leaves:
            return self._next_of_leaf(spot)
        machine = self._machines[spot]
        while not machine.ready() and not machine.is_over():
            self._feed(spot, machine)
        return [machine.gives()] if machine.ready() else []

    def _feed(self, spot, machine):
        """Asks the input that a machine wants, once."""
        at = machine.wants()
        try:
            found = self._next_at((*spot, at))
        except (Fault, Thrown, TooMuch):
            if not machine.goes_on(at):
                raise
        else:
            if found:
                machine.takes(at, found[0])
            else:
                machine.ends(at)
        for other in machine.needless():
            self._close_at((*spot, other))

    def _next_of_leaf(self, spot):
        leaf = self._leaves[spot]
        if self._words:
            raise Thrown(self._words.pop())
        while True:
            if self._asks == MOST_ASKS:
                raise Waits(MOST_ASKS)
            self._asks += 1
            if leaf.name is None:
                return leaf.next_number()
            if leaf.reading is None:
                leaf.reading = self._shelf.open_up(leaf.name)
                self._open_spots.append(spot)
            try:
                return leaf.took(self._shelf.ask(leaf.reading))
            except Over:
                self._close_at(spot)
                return []
            except Fault:
                if not leaf.tries_again():
                    raise

    def _close_at(self, spot):
        """Shuts all open readings of the part at a spot, and tells the names of those where that faulted."""
        beneath = [other for other in self._open_spots if other[:len(spot)] == spot]
        self._open_spots = [other for other in self._open_spots if other not in beneath]
        names = []
        for other in beneath[::-1]:
            names.extend(self._shut(self._leaves[other]))
        self._not_shut.extend(names)
        return names

    def _shut(self, leaf):
        """A list of the leaf's name where closing its reading faults, else of none."""
        try:
            self._shelf.shut(leaf.reading)
        except NotShut:
            return [leaf.name]
        return []

    def _finish(self):
        self._has_ended = True
        return self._close_at(())


class Leaf:
    """A leaf of a plan at work."""

    def __init__(self, node):
        # Of a count there is no name.
        self.name = None if node[0] == "count" else node[-1]
        self.node = node
        self.reading = None
        self.many = 0
        self.tries = 0

    def next_number(self):
        """A list of the next number of a count, or of none at its end."""
        _, start, step, most = self.node
        if self.many == most:
            return []
        self.many += 1
        return [start + step * (self.many - 1)]

    def took(self, thing):
        """A list of the thing, which came of the leaf's reading."""
        self.many += 1
        self.tries = 0
        return [thing]

    def tries_again(self):
        """Whether a thing that faulted is asked for once more."""
        most = self.node[1] if self.node[0] == "again" else 0
        self.tries += 1
        return self.tries <= most
