"""Walks: plans run one by one on what a shelf has, but nothing of it is opened or asked."""

from math import lcm

from greatrows.deeds import number_behind
from greatrows.errors import Fault, TooMuch
from greatrows.nodes import OneByOne, leaves_in, machines_in
from greatrows.plans import INPUTS, nodes_by_spot, tries_of

ENDS = "ends"
FAULTS = "faults"
STOPS = "stops"


class Stopped(Exception):
    """A walk stops ahead of an ask of a leaf."""


class Walk(OneByOne):
    """A plan that is run until it is over, a fault goes out, or the walk stops.

    It stops behind so many asks of leaves, and, where it is told to, ahead of one where a stand comes again.
    """

    def __init__(self, plan, shelf, most, stops_again):
        super().__init__(machines_in(plan))
        matters = matters_in(plan)
        self.leaves = {spot: FarLeaf(leaf, shelf, matters[spot]) for spot, leaf in leaves_in(plan)}
        self.many = 0
        self.room = 0
        # Ahead of each ask of a leaf: the text of the stand, and how many things were told.
        self.texts = []
        self.told_ahead_of = []
        # The numbers of two asks with equal stands, where it stopped for these.
        self.circle = None
        self._most = most
        self._stops_again = stops_again
        self._seen = {}

    def go(self):
        """Goes as far as it may, and tells how that ended."""
        try:
            while self.next_at(()):
                self.many += 1
                self._look()
        except Stopped:
            return STOPS
        except (Fault, TooMuch):
            return FAULTS
        return ENDS

    def asked(self):
        """Tuples (spot, how many things it gave) of all leaves, spots rising."""
        return [(spot, leaf.many) for spot, leaf in self.leaves.items()]

    def next_of_leaf(self, spot):
        self._look()
        asks = len(self.texts)
        text = self._stand_text()
        self.texts.append(text)
        self.told_ahead_of.append(self.many)
        if self._stops_again and text in self._seen:
            self.circle = (self._seen[text], asks)
            raise Stopped()
        if asks == self._most:
            raise Stopped()
        self._seen[text] = asks
        return self.leaves[spot].next_numbers()

    def _look(self):
        self.room = max(self.room, self.held_now())

    def _stand_text(self):
        machines = [machine.stands() for machine in self.machines.values()]
        return _text_of((machines, [leaf.stand() for leaf in self.leaves.values()]))


class FarLeaf:
    """A leaf in a walk; where it is endless, its numbers are told by what matters of them."""

    def __init__(self, leaf, shelf, matters):
        self.many = 0
        self._name = leaf[-1]
        if leaf[0] == "count":
            _, start, step, many = leaf
            self._begins = [] if many is None else [start + step * at for at in range(many)]
            self._then = (("add", step),) if many is None else None
            self._faults = []
            self._last = start - step
        else:
            things, then, _, faults, _ = shelf.source(leaf[-1]).told()
            self._begins = list(things)
            self._then = then
            # Where a fault goes out, for all that the leaf tries.
            self._faults = [at for at, many in faults if many is None or many > tries_of(leaf)]
            self._last = None
        is_turned_plainly = self._then is not None and "rest" not in [word for word, _ in self._then]
        self._matters = matters if is_turned_plainly else None

    def next_numbers(self):
        """A list of its next number, or of none at its end."""
        if self._then is None and self.many == len(self._begins):
            return []
        if self.many in self._faults:
            raise Fault(self._name, self.many)
        self._last = self._begins[self.many] if self.many < len(self._begins) else self._number_behind()
        self.many += 1
        return [self._last]

    def stand(self):
        """A tuple of all that decides what it gives from now on."""
        is_told = self.many >= max(len(self._begins), 1)
        if self._then is not None and is_told and not [at for at in self._faults if at >= self.many]:
            return ("last", self._last)
        return ("many", self.many)

    def _number_behind(self):
        number = number_behind(self._then, self._last)
        return number if self._matters is None else number % self._matters


def matters_in(plan):
    """What matters of the things of the parts at all spots: a number, or None for all."""
    matters = {(): 1}
    for spot, node in nodes_by_spot(plan):
        told = matters[spot]
        for at in range(INPUTS[node[0]]):
            part = (*spot, at)
            matters[part] = _matters_of_input(node, told)
    return matters


def _matters_of_input(node, told):
    """What matters of the things of an input, by what matters of the things that the node tells."""
    match node[0]:
        case "turned":
            return _turned_back(told, node[1])
        case "chosen" | "while" | "until":
            tested = [_turned_back(by if word == "parts" else None, deeds) for deeds, word, by, _ in node[1]]
            return _together([told, *tested])
        case "groups" | "matched":
            return _together([told, _turned_back(None, node[1])])
        case "merged":
            return None
        case "sums":
            return 1 if told == 1 else None
        case _:
            return told


def _turned_back(matters, deeds):
    """What matters ahead of the deeds, by what matters behind them."""
    for word, number in deeds[::-1]:
        if word == "rest" and matters != 1:
            matters = number
    return matters


def _together(several):
    if None in several:
        return None
    total = 1
    for matters in several:
        total = lcm(total, matters)
    return total


def _text_of(thing):
    """A text by which stands are told apart; figures by sixteens, as Python limits how long other ones may be."""
    if isinstance(thing, (list, tuple)):
        return "(" + " ".join([_text_of(part) for part in thing]) + ")"
    return f"{thing:x}" if isinstance(thing, int) else str(thing)
