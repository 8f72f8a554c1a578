"""Kept rows, which go back to their marks."""

from greatrows.below import Held
from greatrows.errors import NotThere, Over
from greatrows.parted import Reader, check_reader, check_room
from greatrows.things import is_whole


class Kept(Reader):
    """A reader that may go back to where it was marked, and is told the same again."""

    def __init__(self, row, *, room=None):
        check_reader(row)
        check_room(room)
        super().__init__()
        self._below = Held(row, room)
        self._marks = []

    def mark(self):
        """Marks its place, and tells it."""
        if self._is_closed:
            raise Over()
        if self._at not in self._marks:
            self._marks = sorted([*self._marks, self._at])
        return self._at

    def back(self, mark):
        """Goes back to a marked place."""
        self._check_mark(mark)
        self._at = mark
        self._has_ended = False

    def release(self, mark):
        """Takes a mark away."""
        self._check_mark(mark)
        self._marks.remove(mark)

    def marks(self):
        """The marked places, rising."""
        return list(self._marks)

    def held(self):
        """How many things are held."""
        return self._below.held_from(self._least())

    def next_thing(self):
        return self._below.thing_at(self._at, self._least())

    def let_go(self):
        self._marks = []
        self._below.close()

    def _check_mark(self, mark):
        # A truth is equal to a number, but it is no mark.
        if not is_whole(mark, None, None) or mark not in self._marks:
            raise NotThere(mark)

    def _least(self):
        """The place from which on things are held."""
        return self._below.many if self._is_closed else min([self._at, *self._marks])
