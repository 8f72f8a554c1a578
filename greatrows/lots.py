"""Runs by lots: a plan run on a shelf as a row runs it, but asked for lots of things."""

from greatrows.endings import OVER, refuse
from greatrows.errors import Fault, NoNumber, NotShut, Over, TooMuch
from greatrows.nodes import Nodes
from greatrows.rows import MOST_ASKS
from greatrows.shelves import MOST_OF_LOT, check_grounds, check_names
from greatrows.things import is_whole

WAITS = "waits"


class Lots:
    """A plan at work on a shelf, asked for lots.

    A node is asked for a lot, too, and tells it as a tuple: a list of pairs (thing, how many asks of leaves
    there were when it came), and what stands behind these, where they are fewer than were asked for.
    """

    def __init__(self, plan, shelf):
        check_grounds(plan, shelf)
        check_names(plan, shelf)
        self._nodes = Nodes(plan, shelf)
        self._has_ended = False
        self._many = 0
        # The refusal that goes out at the next lot, if any.
        self._waiting = None
        # How many asks of leaves there were, and how many of them don't count for the thing that comes next.
        self._asks = 0
        self._base = 0
        # By the spots of machines, how many asks there were when what lies ready came.
        self._stamps = {}

    def lot(self, many):
        """The next things, so many, or those ahead of a refusal, where there are some."""
        if not is_whole(many, 1, MOST_OF_LOT):
            raise NoNumber(many)
        if self._waiting is not None:
            ending = self._waiting
            self._waiting = None
            refuse(ending)
        if self._has_ended:
            raise Over()
        things, ending = self._whole_lot(many)
        if ending is not None and ending[0] != WAITS:
            self._finish()
        if not things:
            refuse(ending)
        self._waiting = ending
        self._many += len(things)
        return things

    def close(self):
        """Shuts all that is open, which is nothing where it is over; it is over then."""
        names = self._finish()
        if names:
            raise NotShut(names)

    def not_shut(self):
        """The names of the closings that faulted so far, in order."""
        return self._nodes.not_shut()

    def is_over(self):
        """Whether its end or a fault was met, or it was closed."""
        return self._has_ended

    def told_many(self):
        """How many things it told."""
        return self._many

    def asked(self):
        """How many things came of each leaf, by the leaves' spots."""
        return self._nodes.asked()

    def readings(self):
        """The readings of the leaves that opened one, by their spots."""
        return self._nodes.readings()

    def _whole_lot(self, many):
        """A list of the next things, at most so many, and what stands behind these, where they are fewer."""
        self._base = self._asks
        things = []
        ending = None
        while len(things) < many and ending is None:
            pairs, ending = self._lot_at((), many - len(things))
            for thing, stamp in pairs:
                things.append(thing)
                self._base = max(self._base, stamp)
            # A leaf waits where two hundred asks may have told nothing; now it is known what they told.
            if ending is not None and ending[0] == WAITS and self._asks_left() > 0:
                ending = None
        return things, ending

    def _lot_at(self, spot, many):
        """The lot of the node at a spot."""
        if spot in self._nodes.leaves:
            return self._lot_of_leaf(spot, many)
        machine = self._nodes.machines[spot]
        pairs = self._given(spot, machine, many)
        while len(pairs) < many:
            if machine.is_over():
                return pairs, OVER
            ending = self._feed(spot, machine, many, pairs)
            if ending is not None:
                return pairs, ending
        return pairs, None

    def _feed(self, spot, machine, many, pairs):
        """Asks the input that a machine wants for a lot, and adds to the pairs; tells what keeps it from going on."""
        at = machine.wants()
        found, ending = self._lot_at((*spot, at), machine.sure(many - len(pairs)))
        for thing, stamp in found:
            try:
                machine.takes(at, thing)
            except TooMuch as much:
                return ("much", much.many)
            self._hear(spot, machine, stamp)
            pairs.extend(self._given(spot, machine, many - len(pairs)))
        if ending is None or ending[0] == WAITS:
            return ending
        if ending == OVER:
            machine.ends(at)
        elif not machine.goes_on(at):
            return ending
        self._hear(spot, machine, self._asks)
        pairs.extend(self._given(spot, machine, many - len(pairs)))
        return None

    def _hear(self, spot, machine, stamp):
        """What is done when a machine took something: what it needs no more is closed."""
        self._stamps[spot] = stamp
        for other in machine.needless():
            self._nodes.close_at((*spot, other))

    def _given(self, spot, machine, many):
        """Pairs of what lies ready, at most so many."""
        pairs = []
        while len(pairs) < many and machine.ready():
            pairs.append((machine.gives(), self._stamps[spot]))
        return pairs

    def _lot_of_leaf(self, spot, many):
        pairs = []
        while len(pairs) < many:
            most = min(many - len(pairs), self._asks_left())
            if most == 0:
                return pairs, (WAITS, MOST_ASKS)
            try:
                things = self._nodes.ask_leaf(spot, most)
            except Fault as fault:
                self._asks += 1
                if not self._nodes.leaves[spot].tries_again():
                    return pairs, ("fault", fault.name, fault.at)
            else:
                if not things:
                    self._asks += 1
                    return pairs, OVER
                pairs.extend([(thing, self._asks + at + 1) for at, thing in enumerate(things)])
                self._asks += len(things)
        return pairs, None

    def _asks_left(self):
        """How many asks of leaves are left of two hundred."""
        return MOST_ASKS - (self._asks - self._base)

    def _finish(self):
        self._has_ended = True
        return self._nodes.close_at(())
