"""What is told ahead, written from the words of the document alone: rows that are watched, and walks in their numbers."""

import math

from greatrows.errors import Fault, Over, TooMuch
from greatrows.joins import machine_of
from greatrows.plans import part_at, parts_of, spots_of
from greatrows.rows import Row


class Stop(Exception):
    """A row that is watched is asked no more."""


class Watched(Row):
    """A row that never waits, whose asks of leaves are counted, tries of one thing as one."""

    def watch(self, most):
        """Asks until it is over, or ahead of an ask more than most; tells how it ended."""
        self.most = most
        self.count = 0
        self.room = 0
        # How many things were told ahead of each ask.
        self.told = []
        while True:
            try:
                self.ask()
            except Over:
                return "ends"
            except (Fault, TooMuch):
                return "faults"
            except Stop:
                return "stop"
            self.room = max(self.room, self.held())

    def next_of_leaf(self, spot):
        self._asks = 0
        self.room = max(self.room, self.held())
        self.told.append(self.told_many())
        if self.count == self.most:
            raise Stop
        self.count += 1
        return super().next_of_leaf(spot)


def multiple(several):
    return None if None in several else math.lcm(*several)


def back(matters, deeds):
    for word, number in reversed(deeds):
        matters = number if word == "rest" and matters != 1 else matters
    return matters


def matters(plan, spot):
    """What matters of the things of the part at a spot."""
    if not spot:
        return 1
    node = part_at(plan, spot[:-1])
    told = matters(plan, spot[:-1])
    if node[0] == "turned":
        return back(told, node[1])
    if node[0] in ("chosen", "while", "until"):
        return multiple([told] + [back(n if word == "parts" else None, deeds) for deeds, word, n, _ in node[1]])
    if node[0] in ("groups", "matched"):
        return multiple([told, back(None, node[1])])
    if node[0] == "merged" or (node[0] == "sums" and told != 1):
        return None
    return told


class ModelWalk:
    """A walk by generators; `stands` has one for each ask that is made or stopped."""

    def __init__(self, plan, shelf, most):
        self.plan = plan
        self.shelf = shelf
        self.most = most
        self.machines = {spot: machine_of(part_at(plan, spot)) for spot in spots_of(plan) if parts_of(part_at(plan,
            spot))}
        self.leaves = {spot: None for spot in spots_of(plan) if spot not in self.machines}
        self.gave = {spot: [] for spot in self.leaves}
        self.stands = []
        self.how = self.go()

    def go(self):
        try:
            while self.ask(()):
                pass
        except Stop:
            return "stop"
        except (Fault, TooMuch):
            return "faults"
        return "ends"

    def ask(self, spot):
        if spot in self.leaves:
            return self.ask_leaf(spot)
        machine = self.machines[spot]
        while not machine.ready() and not machine.is_over():
            at = machine.wants()
            try:
                came = self.ask((*spot, at))
            except (Fault, TooMuch):
                if not machine.goes_on(at):
                    raise
                continue
            if came:
                machine.takes(at, came[0])
            else:
                machine.ends(at)
        return [machine.gives()] if machine.ready() else []

    def ask_leaf(self, spot):
        self.stands.append(repr([[machine.stands() for machine in self.machines.values()],
                                 [self.stand_of(leaf) for leaf in self.leaves]]))
        if len(self.stands) > self.most:
            raise Stop
        leaf = part_at(self.plan, spot)
        at = len(self.gave[spot])
        if at in self.faults(leaf):
            raise Fault(leaf[-1], at)
        number = self.number(leaf, spot, at)
        if number is None:
            return []
        self.gave[spot].append(number)
        return [number]

    def faults(self, leaf):
        """Where a fault goes out of a leaf, ahead of the end."""
        if leaf[0] == "count":
            return []
        source = self.shelf.source(leaf[-1])
        tries = leaf[1] if leaf[0] == "again" else 0
        return [at for at, many in source.told()[3]
                if (many is None or many > tries) and (source.how_many() is None or at < source.how_many())]

    def number(self, leaf, spot, at):
        """The number as it is, but by what matters of it where it is one of those."""
        by = matters(self.plan, spot)
        if leaf[0] == "count":
            _, start, step, many = leaf
            if many is not None:
                return start + step * at if at < many else None
            return start + step * at if by is None else (start + step * at) % by
        source = self.shelf.source(leaf[-1])
        if source.how_many() is not None and at >= source.how_many():
            return None
        things, then, _, _, _ = source.told()
        if at < len(things) or by is None or "rest" in [word for word, _ in then]:
            return source.thing(at)
        return source.thing(at) % by

    def stand_of(self, spot):
        leaf = part_at(self.plan, spot)
        gave = self.gave[spot]
        if leaf[0] == "count":
            is_endless, told = leaf[3] is None, 0
        else:
            things, then, _, _, _ = self.shelf.source(leaf[-1]).told()
            is_endless, told = then is not None, len(things)
        ahead = [at for at in self.faults(leaf) if at >= len(gave)]
        if is_endless and gave and len(gave) >= told and not ahead:
            return ("number", gave[-1])
        return ("gave", len(gave))

    def round(self):
        """The first two asks with equal stands, the later one the least."""
        seen = {}
        for at, stand in enumerate(self.stands):
            if stand in seen:
                return (seen[stand], at)
            seen[stand] = at
        return None
