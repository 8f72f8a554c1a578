"""What readers stand on: another reader, what it told and is held yet, and how it ended."""

from greatrows.endings import came_of, refuse
from greatrows.errors import Waits


class Below:
    """A reader that others stand on: how many things it told since then, and how it ended, if it did."""

    def __init__(self, reader):
        self._reader = reader
        self._ending = None
        self.many = 0

    def next_thing(self):
        """The reader's next thing; its end or fault goes out, and is kept."""
        came = came_of(lambda: self._reader.ask())
        if came[0] not in ("thing", "waits"):
            self._ending = came
        if came[0] != "thing":
            refuse(came)
        self.many += 1
        return came[1]

    def has_ended(self):
        """Whether its end or fault was met."""
        return self._ending is not None

    def end_again(self):
        """Refuses as the reader did at its end or fault."""
        refuse(self._ending)

    def close(self):
        """Closes the reader, where it isn't over."""
        if not self._reader.is_over():
            self._reader.close()


class Held(Below):
    """A reader that others stand on, of whose last things some are held, at most as many as the room."""

    def __init__(self, reader, room):
        super().__init__(reader)
        self._room = room
        self._things = []

    def thing_at(self, place, least):
        """The thing at a place, at most the next one that the reader tells; those from the least place on are held."""
        held = self.held_from(least)
        if place < self.many:
            # The last thing that is held is the last one that was told.
            return self._things[place - self.many]
        if self.has_ended():
            self.end_again()
        if held == self._room:
            raise Waits(self._room)
        self._things.append(self.next_thing())
        return self._things[-1]

    def held_from(self, least):
        """How many things are held, where they are held from the least place on."""
        self._things = self._things[len(self._things) - (self.many - least):]
        return len(self._things)
