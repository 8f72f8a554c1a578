"""What the tests of readers share: rows to stand on, and what comes of them."""

from greatrows.errors import NotShut, Over
from greatrows.keeping import Kept
from greatrows.parted import Kinds, Parted, Reader
from greatrows.rows import Row, row_of
from greatrows.shelves import Shelf
from helpers import answer
from model import runs

ON = (("add", 1),)
A, B = ("from", "a"), ("from", "b")
COUNT = ("count", 0, 1, None)


class Told(Reader):
    """A reader that tells what it is made of; it notes what is done with it."""

    def __init__(self, things, ending=None, bad=()):
        super().__init__()
        self.left = [*things]
        self.ending = ending or Over()
        self.bad = bad
        self.asks = 0
        self.closings = 0

    def ask(self):
        self.asks += 1
        if self.is_over() or not self.left:
            ending = Over() if self.is_over() else self.ending
            Reader.close(self)
            raise ending
        thing = self.left.pop(0)
        if isinstance(thing, Exception):
            raise thing
        return thing

    def close(self):
        self.closings += 1
        Reader.close(self)
        if self.bad:
            raise NotShut(list(self.bad))


def outcomes(plan, shelf, many):
    """What comes of so many asks of a row, fewer where it ends."""
    row = row_of(plan, shelf.copied())
    told = []
    while len(told) < many and not row.is_over():
        told.append(answer(row.ask))
    return told


def stacked(chance, reader, by_kinds):
    """The reader, or one that stands on it and is told the same."""
    for _ in range(chance.choice((0, 0, 1, 3))):
        kind = chance.randrange(3 if by_kinds else 2)
        if kind == 0:
            reader = Parted(reader, 1).hand(0)
        elif kind == 1:
            reader = Kept(reader)
        else:
            reader = Kinds(reader, (("times", 0),)).hand(0)
    return reader


def readers(many, seed, by_kinds=True):
    """So many tuples (chance, shelf, row, a reader on it, what comes of this one's asks).

    A hand of kinds that is closed doesn't close what it stands on; without them all do.
    """
    waits = ("chosen", (((("rest", 250),), "is", 249, True),), COUNT)
    for chance, plan, shelf in runs(many, seed):
        if chance.random() < 0.1:
            plan = ("first", 7, ("behind", A, waits))
        told = outcomes(plan, shelf, 60)
        row = row_of(plan, shelf)
        yield chance, shelf, row, stacked(chance, row, by_kinds), told


def is_reader(thing):
    return isinstance(thing, (Row, Reader))


def is_room(thing):
    return thing is None or (isinstance(thing, int) and not isinstance(thing, bool) and 1 <= thing <= 60)


def some_reader():
    return row_of(COUNT, Shelf())
