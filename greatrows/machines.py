"""Machines: nodes of a plan at work. Here are those of one input; `greatrows.joins` has those of two.

How a machine stands tells what it was made of, too, as far as that decides what comes yet: so machines
of one kind, though made otherwise, stand alike just where they go on alike.
"""

from greatrows.deeds import all_hold, is_deeds, is_tests, thing_turned
from greatrows.errors import NoDeeds, NoNumber, NoTests, Over
from greatrows.things import is_whole, value_of

MOST_OF_GROUP = 8


class Machine:
    """A node at work; by itself it lays each thing of input 0 ready."""

    def __init__(self):
        self.lying = []
        self.is_done = False
        self.is_cut = False

    def wants(self):
        """The input of which it needs a thing, or None."""
        return None if self.lying or self.is_done else 0

    def takes(self, at, thing):
        """Takes the wanted thing of an input."""
        self.lying.append(thing)

    def ends(self, at):
        """Hears that the wanted input ended."""
        self.is_done = True

    def ready(self):
        """How many things lie ready."""
        return len(self.lying)

    def gives(self):
        """The first thing that lies ready, which lies there no more."""
        if not self.lying:
            raise Over()
        return self.lying.pop(0)

    def is_over(self):
        """Whether nothing lies ready and nothing will."""
        return self.is_done and not self.lying

    def needless(self):
        """The inputs of which it needs nothing more, though they didn't end."""
        return [0] if self.is_cut else []

    def goes_on(self, at):
        """Whether it goes on though an input faulted."""
        return False

    def held(self):
        """How many things it holds."""
        return len(self.lying)

    def sure(self, many):
        """How many things of the wanted input are needed at least, for so many more to lie ready."""
        return 1

    def rest(self):
        """The thing that is left over, or None."""
        return None

    def twin(self):
        """A machine that stands just so, and goes its own way."""
        other = self.bare()
        other.lying = list(self.lying)
        other.is_done = self.is_done
        other.is_cut = self.is_cut
        self.lay(other)
        return other

    def stands(self):
        """A tuple of all that decides what it does from now on."""
        return (self.is_done, self.is_cut, tuple(self.lying), self.own())

    def stop(self):
        """Wants nothing more from now on, ahead of an end."""
        self.is_done = True
        self.is_cut = True

    def own(self):
        """A tuple of what a kind keeps, as far as it decides."""
        return ()

    def bare(self):
        """A new machine, made of the same."""
        return Machine()

    def lay(self, other):
        """Gives a twin what this kind keeps."""


class Turned(Machine):
    """Each thing turned."""

    def __init__(self, deeds):
        _check_deeds(deeds)
        super().__init__()
        self._deeds = deeds

    def takes(self, at, thing):
        self.lying.append(thing_turned(self._deeds, thing))

    def sure(self, many):
        return many

    def own(self):
        return () if self.is_done else (self._deeds,)

    def bare(self):
        return Turned(self._deeds)


class Chosen(Machine):
    """The things for which the tests hold."""

    def __init__(self, tests):
        _check_tests(tests)
        super().__init__()
        self._tests = tests

    def takes(self, at, thing):
        if all_hold(self._tests, value_of(thing)):
            self.lying.append(thing)

    def sure(self, many):
        return many

    def own(self):
        return () if self.is_done else (self._tests,)

    def bare(self):
        return Chosen(self._tests)


class While(Machine):
    """The things ahead of the first one for which the tests don't hold."""

    def __init__(self, tests):
        _check_tests(tests)
        super().__init__()
        self._tests = tests

    def takes(self, at, thing):
        if all_hold(self._tests, value_of(thing)):
            self.lying.append(thing)
        else:
            self.stop()

    def own(self):
        return () if self.is_done else (self._tests,)

    def bare(self):
        return While(self._tests)


class Until(Machine):
    """The things up to the first one for which the tests hold."""

    def __init__(self, tests):
        _check_tests(tests)
        super().__init__()
        self._tests = tests

    def takes(self, at, thing):
        self.lying.append(thing)
        if all_hold(self._tests, value_of(thing)):
            self.stop()

    def own(self):
        return () if self.is_done else (self._tests,)

    def bare(self):
        return Until(self._tests)


class First(Machine):
    """The first things, so many."""

    def __init__(self, many):
        _check_number(many, 0, 60)
        super().__init__()
        self._many = many
        self._left = many
        if many == 0:
            self.stop()

    def takes(self, at, thing):
        self.lying.append(thing)
        self._left -= 1
        if self._left == 0:
            self.stop()

    def sure(self, many):
        return min(many, self._left)

    def own(self):
        return () if self.is_done else (self._left,)

    def bare(self):
        return First(self._many)

    def lay(self, other):
        other._left = self._left


class Skip(Machine):
    """The things behind the first so many."""

    def __init__(self, many):
        _check_number(many, 0, 60)
        super().__init__()
        self._many = many
        self._left = many

    def takes(self, at, thing):
        if self._left > 0:
            self._left -= 1
        else:
            self.lying.append(thing)

    def sure(self, many):
        return many + self._left

    def own(self):
        return () if self.is_done else (self._left,)

    def bare(self):
        return Skip(self._many)

    def lay(self, other):
        other._left = self._left


class Windows(Machine):
    """Tuples of so many neighbours."""

    def __init__(self, many):
        _check_number(many, 1, 8)
        super().__init__()
        self._many = many
        self._kept = []

    def takes(self, at, thing):
        self._kept.append(thing)
        if len(self._kept) == self._many:
            self.lying.append(tuple(self._kept))
            self._kept.pop(0)

    def held(self):
        return len(self.lying) + len(self._kept)

    def sure(self, many):
        return many + self._many - len(self._kept) - 1

    def own(self):
        # Behind the end no window comes, but what is kept is held all the same.
        return (len(self._kept),) if self.is_done else (self._many, tuple(self._kept))

    def bare(self):
        return Windows(self._many)

    def lay(self, other):
        other._kept = list(self._kept)


class Groups(Machine):
    """Tuples of things of equal key that stand together, eight at most."""

    def __init__(self, deeds):
        _check_deeds(deeds)
        super().__init__()
        self._deeds = deeds
        self._kept = []

    def takes(self, at, thing):
        if self._kept and thing_turned(self._deeds, self._kept[0]) != thing_turned(self._deeds, thing):
            self._end_group()
        self._kept.append(thing)
        if len(self._kept) == MOST_OF_GROUP:
            self._end_group()

    def ends(self, at):
        if self._kept:
            self._end_group()
        self.is_done = True

    def held(self):
        return len(self.lying) + len(self._kept)

    def own(self):
        return () if self.is_done else (self._deeds, tuple(self._kept))

    def bare(self):
        return Groups(self._deeds)

    def lay(self, other):
        other._kept = list(self._kept)

    def _end_group(self):
        self.lying.append(tuple(self._kept))
        self._kept = []


class Sums(Machine):
    """The values summed up."""

    def __init__(self):
        super().__init__()
        self._total = 0

    def takes(self, at, thing):
        self._total = self._total + value_of(thing)
        self.lying.append(self._total)

    def sure(self, many):
        return many

    def own(self):
        return () if self.is_done else (self._total,)

    def bare(self):
        return Sums()

    def lay(self, other):
        other._total = self._total


class Flat(Machine):
    """Numbers, and the things of tuples in their place."""

    def takes(self, at, thing):
        if isinstance(thing, tuple):
            self.lying.extend(thing)
        else:
            self.lying.append(thing)

    def bare(self):
        return Flat()


def _check_deeds(thing):
    if not is_deeds(thing):
        raise NoDeeds(thing)


def _check_tests(thing):
    if not is_tests(thing):
        raise NoTests(thing)


def _check_number(thing, low, high):
    if not is_whole(thing, low, high):
        raise NoNumber(thing)
