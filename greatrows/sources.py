"""Sources: endless or not, on pages, with faults."""

from greatrows.deeds import is_deeds, number_behind
from greatrows.errors import NoDeeds, NoList, NoNumber, NoTruth, Over
from greatrows.things import is_whole

MOST_THINGS_TOLD = 40
MOST_FAULTS = 40


class Source:
    """A row of numbers that never changes."""

    def __init__(self, things, *, then=None, page=1, faults=None, close_fault=False):
        _check_things(things)
        if then is not None and (not is_deeds(then) or not then):
            raise NoDeeds(then)
        if not is_whole(page, 1, 8):
            raise NoNumber(page)
        if faults is not None and not _is_faults(faults):
            raise NoList(faults)
        if not isinstance(close_fault, bool):
            raise NoTruth(close_fault)
        if not things and then is not None:
            raise NoList(things)
        pairs = () if faults is None else tuple(sorted(faults.items()))
        self._things = tuple(things)
        self._then = then
        self._made_of = (self._things, then, page, pairs, close_fault)

    def thing(self, number):
        """The thing of a number from 0 on."""
        if not is_whole(number, 0, None):
            raise NoNumber(number)
        if number < len(self._things):
            return self._things[number]
        if self._then is None:
            raise Over()
        found = self._things[-1]
        for _ in range(number - len(self._things) + 1):
            found = number_behind(self._then, found)
        return found

    def how_many(self):
        """How many things it has, None where it is endless."""
        return len(self._things) if self._then is None else None

    def told(self):
        """What it was made of: things, then, page, faults, and whether closing faults."""
        return self._made_of

    def __eq__(self, other):
        return isinstance(other, Source) and self._made_of == other._made_of

    def thing_behind(self, number, ahead):
        """The thing of a number that it has, where the thing ahead of it is known."""
        return self._things[number] if number < len(self._things) else number_behind(self._then, ahead)


def _check_things(things):
    if not isinstance(things, (list, tuple)) or len(things) > MOST_THINGS_TOLD:
        raise NoList(things)
    for thing in things:
        if not is_whole(thing, None, None):
            raise NoNumber(thing)


def _is_faults(thing):
    if not isinstance(thing, dict) or len(thing) > MOST_FAULTS:
        return False
    return all([is_whole(at, 0, 399) and (many is None or is_whole(many, 1, 9)) for at, many in thing.items()])
