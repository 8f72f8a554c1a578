"""Rows: a plan run on a shelf, asked for one thing at a time."""

from greatrows.errors import Fault, NotShut, Over, Thrown, TooMuch, Waits
from greatrows.nodes import Nodes, OneByOne
from greatrows.shelves import check_grounds, check_names

MOST_ASKS = 200


def row_of(plan, shelf):
    """A row that runs the plan on the shelf."""
    check_grounds(plan, shelf)
    check_names(plan, shelf)
    return Row(plan, shelf)


class Row(OneByOne):
    """A plan at work on a shelf, which are known to fit; `row_of` makes sure of that."""

    def __init__(self, plan, shelf):
        self._nodes = Nodes(plan, shelf)
        super().__init__(self._nodes.machines)
        self._has_ended = False
        self._many = 0
        # Of the ask that goes on: how many asks of leaves there were, and the word that is thrown in, if any.
        self._asks = 0
        self._words = []

    def ask(self):
        """The next thing."""
        return self._told([])

    def throw(self, word):
        """The next thing, where the first leaf that would be asked faults."""
        return self._told([word])

    def close(self):
        """Shuts all that is open, which is nothing where the row is over; it is over then."""
        names = self._finish()
        if names:
            raise NotShut(names)

    def not_shut(self):
        """The names of the closings that faulted so far, in order."""
        return self._nodes.not_shut()

    def is_over(self):
        """Whether its end or a fault was met, or it was closed."""
        return self._has_ended

    def told_many(self):
        """How many things it told."""
        return self._many

    def held(self):
        """How many things its machines hold together."""
        return self.held_now()

    def asked(self):
        """How many things came of each leaf, by the leaves' spots."""
        return self._nodes.asked()

    def readings(self):
        """The readings of the leaves that opened one, by their spots."""
        return self._nodes.readings()

    def rest(self):
        """The rest that the machine of the whole plan tells, or None."""
        return self.machines[()].rest() if self.machines else None

    def next_of_leaf(self, spot):
        if self._words:
            raise Thrown(self._words.pop())
        while True:
            if self._asks == MOST_ASKS:
                raise Waits(MOST_ASKS)
            self._asks += 1
            try:
                return self._nodes.ask_leaf(spot, 1)
            except Fault:
                if not self._nodes.leaves[spot].tries_again():
                    raise

    def close_at(self, spot):
        self._nodes.close_at(spot)

    def _told(self, words):
        if self._has_ended:
            raise Over()
        self._asks = 0
        self._words = words
        try:
            found = self.next_at(())
        except (Fault, Thrown, TooMuch):
            self._finish()
            raise
        if not found:
            self._finish()
            raise Over()
        self._many += 1
        return found[0]

    def _finish(self):
        self._has_ended = True
        return self._nodes.close_at(())
