"""Runs by hands: each spot of a plan has a hand, and the hands have turns, in any order."""

from greatrows.endings import OVER
from greatrows.errors import Fault, NoNumber, NoOrder, NoSpot, NotShut, TooMuch
from greatrows.nodes import Nodes
from greatrows.plans import is_spot_in, spots_of
from greatrows.shelves import check_grounds, check_names
from greatrows.things import is_whole

MOST_ROOM = 4
MOST_IN_ALL = 400
MOST_TURNS = 2000


class Hands:
    """A plan at work on a shelf, by hands.

    What a hand gives is an item: ("thing", thing), ("over",), or its fault. Items lie in the rows to the hands
    that read them; what the hand of the whole plan gives is told.
    """

    def __init__(self, plan, shelf, *, room=1):
        check_grounds(plan, shelf)
        if not is_whole(room, 1, MOST_ROOM):
            raise NoNumber(room)
        check_names(plan, shelf)
        self._plan = plan
        self._spots = spots_of(plan)
        self._shelf = shelf
        self._room = room
        self._nodes = Nodes(plan, shelf)
        self._rows = {spot: [] for spot in self._spots if spot}
        # The faults that hands met, and the hands that do nothing more, by their spots.
        self._met = {}
        self._resting = {}
        self._things = []
        self._ending = None
        for spot, machine in self._nodes.machines.items():
            self._drop_needless(spot, machine)

    def turn(self, spot):
        """A turn of the hand at a spot; tells whether it did anything."""
        if not is_spot_in(self._spots, spot):
            raise NoSpot(spot)
        if spot in self._resting:
            return False
        item = self._item_at(spot) if self._has_room(spot) else None
        if item is not None:
            self._give(spot, item)
            return True
        return spot in self._nodes.machines and self._take(spot, self._nodes.machines[spot])

    def close(self):
        """Shuts all that is open, and ends all turns; a second time nothing is done."""
        self._resting[()] = True
        names = self._drop_inputs(())
        if names:
            raise NotShut(names)

    def told(self):
        """The told things."""
        return list(self._things)

    def not_shut(self):
        """The names of the closings that faulted so far, in order."""
        return self._nodes.not_shut()

    def ending(self):
        """None, ("over",), or the fault."""
        return self._ending

    def waiting(self):
        """How many items lie in the rows, by the spots of the hands that gave them."""
        return {spot: len(row) for spot, row in self._rows.items()}

    def asked(self):
        """How many things came of each leaf, by the leaves' spots."""
        return self._nodes.asked()

    def run(self, order, many):
        """Has turns in an order, again and again, until so many things are told; tells how many turns did anything."""
        if not self._is_order(order):
            raise NoOrder(order)
        if not is_whole(many, 0, MOST_IN_ALL):
            raise NoNumber(many)
        did = 0
        # Turns one behind the other that did nothing; as many as a going has are of all spots, wherever they began.
        idle = 0
        at = 0
        while not self.has_told(many) and did < MOST_TURNS and idle < len(order):
            if self.turn(order[at]):
                did += 1
                idle = 0
            else:
                idle += 1
            at = (at + 1) % len(order)
        return did

    def copied(self):
        """Hands that stand just so on a copy of the shelf, and go their own way."""
        shelf = self._shelf.copied()
        other = Hands(self._plan, shelf, room=self._room)
        other._nodes = self._nodes.copied(shelf)
        other._rows = {spot: list(row) for spot, row in self._rows.items()}
        other._met = dict(self._met)
        other._resting = dict(self._resting)
        other._things = list(self._things)
        other._ending = self._ending
        return other

    def spots(self):
        """The spots of the hands, in order."""
        return list(self._spots)

    def has_told(self, many):
        """Whether so many things are told, or the ending."""
        return len(self._things) >= many or self._ending is not None

    def stands(self):
        """A text of all that was told, and that decides what comes; of Hands of one plan, shelf and room."""
        machines = [(machine.stands(), self._met.get(spot)) for spot, machine in self._nodes.machines.items()]
        resting = [spot in self._resting for spot in self._spots]
        asked = list(self._nodes.asked().values())
        return str((self._things, self._ending, machines, list(self._rows.values()), resting, asked))

    def _is_order(self, thing):
        """Whether it is a list of spots that has each, once or more often."""
        if not isinstance(thing, (list, tuple)) or not all([is_spot_in(self._spots, spot) for spot in thing]):
            return False
        return all([spot in thing for spot in self._spots])

    def _has_room(self, spot):
        return not spot or len(self._rows[spot]) < self._room

    def _item_at(self, spot):
        """What the hand at a spot gives now, or None."""
        if spot in self._nodes.leaves:
            return self._item_of_leaf(spot)
        machine = self._nodes.machines[spot]
        if machine.ready():
            return ("thing", machine.gives())
        if spot in self._met:
            return self._met[spot]
        return OVER if machine.is_over() else None

    def _item_of_leaf(self, spot):
        while True:
            try:
                things = self._nodes.ask_leaf(spot, 1)
            except Fault as fault:
                if not self._nodes.leaves[spot].tries_again():
                    return ("fault", fault.name, fault.at)
            else:
                return ("thing", things[0]) if things else OVER

    def _give(self, spot, item):
        if item[0] != "thing":
            self._resting[spot] = True
        if spot:
            self._rows[spot].append(item)
        elif item[0] == "thing":
            self._things.append(item[1])
        else:
            self._ending = item
            self._drop_inputs(())

    def _take(self, spot, machine):
        """Takes the first item of the input that a machine wants; tells whether there was one."""
        at = machine.wants()
        # What wants nothing has no such row.
        row = self._rows.get((*spot, at))
        if not row:
            return False
        fault = self._fault_by(machine, at, row.pop(0))
        if fault is not None:
            self._met[spot] = fault
            self._drop_inputs(spot)
        self._drop_needless(spot, machine)
        return True

    def _fault_by(self, machine, at, item):
        """Hands an item to a machine; tells the fault that is met by it, or None."""
        if item == OVER:
            machine.ends(at)
        elif item[0] == "thing":
            try:
                machine.takes(at, item[1])
            except TooMuch as much:
                return ("much", much.many)
        elif not machine.goes_on(at):
            return item
        return None

    def _drop_needless(self, spot, machine):
        for at in machine.needless():
            other = (*spot, at)
            self._end_turns([each for each in self._rows if each[:len(other)] == other])
            self._nodes.close_at(other)

    def _drop_inputs(self, spot):
        """Is done with all inputs of the hand at a spot; tells the names of the closings that faulted by it."""
        self._end_turns([each for each in self._rows if len(each) > len(spot) and each[:len(spot)] == spot])
        return self._nodes.close_at(spot)

    def _end_turns(self, spots):
        """Lets the hands at these spots do nothing more, and empties their rows."""
        for spot in spots:
            self._resting[spot] = True
            self._rows[spot] = []
