"""Machines of two inputs, and the machine of a plan's whole."""

from greatrows.deeds import is_deeds, thing_turned
from greatrows.errors import NoDeeds, NoNumber, NoPlan, TooMuch
from greatrows.machines import (
    Chosen, First, Flat, Groups, Machine, Skip, Sums, Turned, Until, While, Windows,
)
from greatrows.plans import INPUTS, is_plan
from greatrows.things import is_whole, value_of

MOST_KEPT = 8


class Behind(Machine):
    """All of input 0, then of input 1."""

    def __init__(self):
        super().__init__()
        self._has_ended = False

    def wants(self):
        if self.lying or self.is_done:
            return None
        return 1 if self._has_ended else 0

    def ends(self, at):
        if at == 0:
            self._has_ended = True
        else:
            self.is_done = True

    def sure(self, many):
        return many

    def own(self):
        return (self._has_ended,)

    def bare(self):
        return Behind()

    def lay(self, other):
        other._has_ended = self._has_ended


class Beside(Machine):
    """Tuples (x, y) of the things of both, as long as both tell."""

    def __init__(self):
        super().__init__()
        self._kept = []

    def wants(self):
        if self.lying or self.is_done:
            return None
        return 1 if self._kept else 0

    def takes(self, at, thing):
        self._kept.append(thing)
        if at == 1:
            self.lying.append(tuple(self._kept))
            self._kept = []

    def ends(self, at):
        self.stop()

    def needless(self):
        if not self.is_done:
            return []
        # A thing is kept just where it was input 1 that ended.
        return [0] if self._kept else [1]

    def held(self):
        return len(self.lying) + len(self._kept)

    def rest(self):
        """The thing of input 0 that is left over, where input 1 ended, or None."""
        return self._kept[0] if self.is_done and self._kept else None

    def own(self):
        return tuple(self._kept)

    def bare(self):
        return Beside()

    def lay(self, other):
        other._kept = list(self._kept)


class Merged(Machine):
    """Of the next things of both the one of the lesser value, of equal ones that of input 0."""

    def __init__(self):
        super().__init__()
        self._kept = [None, None]
        self._ended = [False, False]

    def wants(self):
        if self.lying or self.is_done:
            return None
        return self._lacked()

    def takes(self, at, thing):
        self._kept[at] = thing
        self._choose_lesser()

    def ends(self, at):
        self._ended[at] = True
        self._choose_lesser()
        self.is_done = self._ended == [True, True]

    def held(self):
        return len(self.lying) + len(self._kept_at())

    def own(self):
        return tuple(self._kept), tuple(self._ended)

    def bare(self):
        return Merged()

    def lay(self, other):
        other._kept = list(self._kept)
        other._ended = list(self._ended)

    def _kept_at(self):
        """The inputs of which a thing is kept."""
        return [at for at in (0, 1) if self._kept[at] is not None]

    def _lacked(self):
        """The first input that hasn't ended, and of which no thing is kept, or None."""
        lacked = [at for at in (0, 1) if self._kept[at] is None and not self._ended[at]]
        return lacked[0] if lacked else None

    def _choose_lesser(self):
        kept = self._kept_at()
        if kept and self._lacked() is None:
            at = min(kept, key=lambda one: value_of(self._kept[one]))
            self.lying.append(self._kept[at])
            self._kept[at] = None


class Matched(Machine):
    """Tuples (x, y): for each x of input 0 the kept things y of input 1 of equal key."""

    def __init__(self, deeds, room):
        if not is_deeds(deeds):
            raise NoDeeds(deeds)
        if not is_whole(room, 1, MOST_KEPT):
            raise NoNumber(room)
        super().__init__()
        self._deeds = deeds
        self._room = room
        self._kept = []
        self._has_ended = False

    def wants(self):
        if self.lying or self.is_done:
            return None
        return 0 if self._has_ended else 1

    def takes(self, at, thing):
        if at == 0:
            key = thing_turned(self._deeds, thing)
            self.lying.extend([(thing, kept) for kept in self._kept if thing_turned(self._deeds, kept) == key])
        elif len(self._kept) == self._room:
            raise TooMuch(self._room)
        else:
            self._kept.append(thing)

    def ends(self, at):
        if at == 0:
            self.is_done = True
            self._kept = []
        elif self._kept:
            self._has_ended = True
        else:
            self.stop()

    def held(self):
        return len(self.lying) + len(self._kept)

    def own(self):
        if self.is_done:
            return ()
        # The order decides only among things of one key; the room nothing more behind the end of input 1.
        kept = sorted(self._kept, key=lambda thing: str(thing_turned(self._deeds, thing)))
        return self._deeds, tuple(kept), None if self._has_ended else self._room

    def bare(self):
        return Matched(self._deeds, self._room)

    def lay(self, other):
        other._kept = list(self._kept)
        other._has_ended = self._has_ended


class Else(Machine):
    """Input 0, and from its fault on all of input 1."""

    def __init__(self):
        super().__init__()
        self._has_faulted = False

    def wants(self):
        if self.lying or self.is_done:
            return None
        return 1 if self._has_faulted else 0

    def ends(self, at):
        if at == 0:
            self.stop()
        else:
            self.is_done = True

    def needless(self):
        if self._has_faulted:
            return [0]
        return [1] if self.is_done else []

    def goes_on(self, at):
        if at == 1 or self._has_faulted or self.is_done:
            return False
        self._has_faulted = True
        return True

    def sure(self, many):
        return many

    def own(self):
        return (self._has_faulted,)

    def bare(self):
        return Else()

    def lay(self, other):
        other._has_faulted = self._has_faulted


def machine_of(plan):
    """The machine of the plan's whole, as new, or None of a leaf."""
    if not is_plan(plan):
        raise NoPlan(plan)
    if INPUTS[plan[0]] == 1:
        return _machine_of_one(plan)
    return _machine_of_two(plan) if INPUTS[plan[0]] == 2 else None


def _machine_of_one(plan):
    match plan[0]:
        case "turned":
            return Turned(plan[1])
        case "chosen":
            return Chosen(plan[1])
        case "while":
            return While(plan[1])
        case "until":
            return Until(plan[1])
        case "first":
            return First(plan[1])
        case "skip":
            return Skip(plan[1])
        case "windows":
            return Windows(plan[1])
        case "groups":
            return Groups(plan[1])
        case "sums":
            return Sums()
        case _:
            return Flat()


def _machine_of_two(plan):
    match plan[0]:
        case "behind":
            return Behind()
        case "beside":
            return Beside()
        case "merged":
            return Merged()
        case "matched":
            return Matched(plan[1], plan[2])
        case _:
            return Else()
