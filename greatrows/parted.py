"""Readers, rows parted among many hands, and rows parted by the kinds of their things."""

from greatrows.below import Below, Held
from greatrows.deeds import is_deeds, thing_turned
from greatrows.errors import Fault, NoDeeds, NoNumber, NoRow, NotThere, NoThing, Over, Thrown, TooMuch, Waits
from greatrows.rows import MOST_ASKS, Row
from greatrows.things import is_thing, is_whole

MOST_HANDS = 6
MOST_ROOM = 60


class Reader:
    """What is asked for one thing at a time; by itself it is told nothing."""

    def __init__(self):
        self._at = 0
        self._has_ended = False
        self._is_closed = False

    def ask(self):
        """The next thing."""
        if self._has_ended:
            raise Over()
        try:
            thing = self.next_thing()
        except (Over, Fault, Thrown, TooMuch):
            self._has_ended = True
            raise
        self._at += 1
        return thing

    def close(self):
        """Is told nothing from now on; a second time nothing is done."""
        if not self._is_closed:
            self._is_closed = True
            self._has_ended = True
            self.let_go()

    def is_over(self):
        """Whether it was closed, or refused with Over or a fault."""
        return self._has_ended

    def place(self):
        """How many things it was told."""
        return self._at

    def next_thing(self):
        """The thing at its place; each kind of reader has its own way to it."""
        raise Over()

    def let_go(self):
        """What else is done by its closing."""


class Hand(Reader):
    """One of those among which a row is parted."""

    def __init__(self, parted):
        super().__init__()
        self._parted = parted

    def next_thing(self):
        return self._parted.thing_at(self._at)

    def let_go(self):
        self._parted.close_unread()


class Parted:
    """A row of which so many hands are told all things, each at its own pace."""

    def __init__(self, row, many, *, room=None):
        check_reader(row)
        if not is_whole(many, 1, MOST_HANDS):
            raise NoNumber(many)
        check_room(room)
        self._below = Held(row, room)
        self._hands = [Hand(self) for _ in range(many)]

    def hand(self, number):
        """The hand of a number."""
        if not is_whole(number, 0, len(self._hands) - 1):
            raise NotThere(number)
        return self._hands[number]

    def hands(self):
        """How many hands there are."""
        return len(self._hands)

    def held(self):
        """How many things are held."""
        return self._below.held_from(self._least())

    def told_many(self):
        """How many things the reader told since it was handed in."""
        return self._below.many

    def thing_at(self, place):
        """The thing at a hand's place."""
        return self._below.thing_at(place, self._least())

    def close_unread(self):
        """Closes the reader where no hand is left that isn't over."""
        if all([hand.is_over() for hand in self._hands]):
            self._below.close()

    def _least(self):
        """The place from which on things are held."""
        return min([hand.place() for hand in self._hands if not hand.is_over()], default=self._below.many)


class KindHand(Reader):
    """A reader of the things of one kind."""

    def __init__(self, kinds, kind):
        super().__init__()
        self._kinds = kinds
        self._kind = kind

    def next_thing(self):
        return self._kinds.next_of(self._kind)

    def let_go(self):
        self._kinds.close_kind(self._kind)


class Kinds:
    """A row parted by the kinds of its things; what isn't of the kind that is asked for waits."""

    def __init__(self, row, deeds, *, room=None):
        check_reader(row)
        if not is_deeds(deeds):
            raise NoDeeds(deeds)
        check_room(room)
        self._below = Below(row)
        self._deeds = deeds
        self._room = room
        # Kinds may be too deep for keys, so all is kept by their texts.
        self._came = {}
        self._lying = {}
        self._closed = {}
        self._is_closed = False

    def hand(self, kind):
        """A new reader of the things of a kind."""
        _check_thing(kind)
        return KindHand(self, kind)

    def kinds(self):
        """The kinds that came, in the order in which each first did."""
        return list(self._came.values())

    def held(self):
        """How many things wait in all."""
        return sum([len(things) for things in self._lying.values()])

    def waiting(self, kind):
        """How many things of a kind wait."""
        _check_thing(kind)
        return len(self._lying.get(str(kind), []))

    def close(self):
        """Closes all kinds, and the reader where it isn't over."""
        self._is_closed = True
        self._lying = {}
        self._below.close()

    def next_of(self, kind):
        """The first thing that waits of a kind, for which the reader is asked as often as needed."""
        text = str(kind)
        asks = 0
        while not self._lying.get(text):
            if self._is_closed or text in self._closed or self._below.has_ended():
                raise Over()
            if self.held() == self._room:
                raise Waits(self._room)
            if asks == MOST_ASKS:
                raise Waits(MOST_ASKS)
            self._sort_in(self._below.next_thing())
            asks += 1
        return self._lying[text].pop(0)

    def close_kind(self, kind):
        """Lets no thing of a kind wait from now on."""
        self._closed[str(kind)] = True
        self._lying[str(kind)] = []

    def _sort_in(self, thing):
        kind = thing_turned(self._deeds, thing)
        text = str(kind)
        self._came[text] = kind
        if text not in self._closed:
            self._lying.setdefault(text, []).append(thing)


def check_reader(thing):
    """Refuses what is no reader."""
    if not isinstance(thing, (Row, Reader)):
        raise NoRow(thing)


def check_room(thing):
    """Refuses what is no room."""
    if thing is not None and not is_whole(thing, 1, MOST_ROOM):
        raise NoNumber(thing)


def _check_thing(thing):
    if not is_thing(thing):
        raise NoThing(thing)
