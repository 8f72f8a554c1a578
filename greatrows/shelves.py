"""Shelves of sources, and the readings of these."""

from greatrows.errors import (
    Doubled, Fault, NoName, NoNumber, NoPlan, NoShelf, NoSource, NotOpen, NotShut, NotThere, Over, TooMuch,
)
from greatrows.plans import is_plan, names_in
from greatrows.sources import Source
from greatrows.things import is_name, is_whole

MOST_SOURCES = 8
MOST_OF_LOT = 400


class Shelf:
    """Sources by names, the readings that were opened of them, and a log of all that was done."""

    def __init__(self):
        self._names = []
        self._sources = []
        self._readings = []
        self._log = []

    def put_up(self, name, source):
        """Puts up a source by a name that the shelf hasn't yet."""
        if not is_name(name):
            raise NoName(name)
        if not isinstance(source, Source):
            raise NoSource(source)
        if name in self._names:
            raise Doubled(name)
        if len(self._names) == MOST_SOURCES:
            raise TooMuch(MOST_SOURCES)
        self._names.append(name)
        self._sources.append(source)

    def names(self):
        """The names, in the order in which they were put up."""
        return list(self._names)

    def source(self, name):
        """The source of a name."""
        self._check_name(name)
        return self._sources[self._names.index(name)]

    def open_up(self, name):
        """Opens a reading, and tells its number."""
        source = self.source(name)
        number = len(self._readings)
        self._readings.append(Reading(name, source))
        self._log.append(("open", number, name))
        return number

    def ask(self, reading):
        """The thing at the reading's place, which is the next one then."""
        asked = self._opened(reading)
        self._check_first(reading, asked)
        return self._take(reading, asked, 1)[0]

    def ask_lot(self, reading, many):
        """The things from the reading's place on: fewer only ahead of the end or of a fault."""
        asked = self._opened(reading)
        if not is_whole(many, 1, MOST_OF_LOT):
            raise NoNumber(many)
        self._check_first(reading, asked)
        return self._take(reading, asked, many)

    def shut(self, reading):
        """Shuts a reading, also where closing it faults."""
        asked = self._opened(reading)
        asked.is_shut = True
        if asked.closing_faults():
            self._log.append(("badly", reading))
            raise NotShut(asked.called)
        self._log.append(("shut", reading))

    def place(self, reading):
        """The place of a reading, open or shut."""
        return self._reading(reading).at

    def name_of(self, reading):
        """The name of the source of a reading, open or shut."""
        return self._reading(reading).called

    def is_open(self, thing):
        """Whether it is the number of an open reading."""
        return self._is_reading(thing) and not self._readings[thing].is_shut

    def open_ones(self):
        """The numbers of the open readings, rising."""
        return [number for number, reading in enumerate(self._readings) if not reading.is_shut]

    def log(self):
        """The rows of all that was done, in order."""
        return list(self._log)

    def told_of(self, name):
        """How many things were told by readings opened by this name."""
        self._check_name(name)
        return sum([reading.at for reading in self._readings if reading.called == name])

    def loads(self, name):
        """How many pages were loaded by readings opened by this name."""
        self._check_name(name)
        return sum([reading.pages for reading in self._readings if reading.called == name])

    def copied(self):
        """A shelf that stands just so, and goes its own way."""
        other = Shelf()
        other._names = list(self._names)
        other._sources = list(self._sources)
        other._readings = [reading.copied() for reading in self._readings]
        other._log = list(self._log)
        return other

    def __eq__(self, other):
        return (isinstance(other, Shelf) and self._names == other._names and self._sources == other._sources
                and self._log == other._log)

    def _check_name(self, name):
        if name not in self._names:
            raise NotThere(name)

    def _is_reading(self, thing):
        return is_whole(thing, 0, len(self._readings) - 1)

    def _reading(self, number):
        if not self._is_reading(number):
            raise NotThere(number)
        return self._readings[number]

    def _opened(self, number):
        if not self.is_open(number):
            raise NotOpen(number)
        return self._readings[number]

    def _check_first(self, number, asked):
        """Refuses an ask where the reading is at the end, or its thing faults."""
        if asked.is_at_end():
            self._log.append(("end", number))
            raise Over()
        if asked.would_fault():
            self._load(number, asked)
            asked.wear_off()
            self._log.append(("fault", number, asked.at))
            raise Fault(asked.called, asked.at)

    def _take(self, number, asked, most):
        """The things from the place on, at most so many, of which the first one is known to be told."""
        begin = asked.at
        things = []
        while len(things) < most and not asked.is_at_end() and not asked.would_fault():
            self._load(number, asked)
            things.append(asked.next_thing())
        self._log.append(("ask", number, begin, len(things)))
        return things

    def _load(self, number, asked):
        """Loads the page on which the reading's place lies, where it wasn't loaded yet."""
        page = asked.page_at_place()
        if page == asked.pages:
            asked.pages += 1
            self._log.append(("load", number, page))


def fresh_shelf(shelf):
    """A shelf of the same sources, on which nothing was opened."""
    other = Shelf()
    for name in shelf.names():
        other.put_up(name, shelf.source(name))
    return other


def check_grounds(plan, shelf):
    """Refuses what is no plan, and what is no shelf."""
    if not is_plan(plan):
        raise NoPlan(plan)
    if not isinstance(shelf, Shelf):
        raise NoShelf(shelf)


def check_names(plan, shelf):
    """Refuses a plan that names a source which the shelf hasn't, by the first such name."""
    names = shelf.names()
    for name in names_in(plan):
        if name not in names:
            raise NotThere(name)


class Reading:
    """One reading of a source: where it is, and which faults are left in it."""

    def __init__(self, called, book):
        self.called = called
        self.book = book
        self.at = 0
        # As places only rise, the pages that were loaded are the first ones.
        self.pages = 0
        self.is_shut = False
        self.last = 0
        self.left = dict(book.told()[3])

    def is_at_end(self):
        """Whether the source has no thing at the place."""
        many = self.book.how_many()
        return many is not None and self.at >= many

    def would_fault(self):
        """Whether an ask for the thing at the place faults."""
        return self.at in self.left

    def wear_off(self):
        """Leaves one fault less at the place, where they are numbered."""
        many = self.left[self.at]
        if many == 1:
            del self.left[self.at]
        elif many is not None:
            self.left[self.at] = many - 1

    def next_thing(self):
        """The thing at the place, which is the next one then."""
        # The last thing is kept, so that an endless source isn't reckoned from its begin each time.
        self.last = self.book.thing_behind(self.at, self.last)
        self.at += 1
        return self.last

    def page_at_place(self):
        """The number of the page on which the thing at the place lies."""
        return self.at // self.book.told()[2]

    def closing_faults(self):
        """Whether closing faults."""
        return self.book.told()[4]

    def copied(self):
        """A reading that stands just so, and goes its own way."""
        other = Reading(self.called, self.book)
        other.at = self.at
        other.pages = self.pages
        other.is_shut = self.is_shut
        other.last = self.last
        other.left = dict(self.left)
        return other
