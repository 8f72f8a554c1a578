"""Plans run by generators, written from the words of the document alone: what rows are compared with."""

import random

from greatrows.deeds import tests_hold, turned_by
from greatrows.errors import Fault, NotShut, Over, Thrown, TooMuch
from greatrows.plans import is_plan
from greatrows.shelves import Shelf
from greatrows.sources import Source
from greatrows.things import value_of


class Open(Exception):
    """A leaf would be asked for more things than it may be."""


class Run:
    """A plan run on a shelf, asked as a row is, but never refused with Waits."""

    def __init__(self, plan, shelf, most=None):
        self.shelf = shelf
        self.most = most
        self.opened = []
        self.not_shut = []
        self.asked = {}
        self.readings = {}
        self.words = []
        self.rest = None
        self.is_over = False
        self.told = self.node(plan, ())

    def ask(self, words=()):
        """A tuple: ("thing", thing), ("over",), or the kind of a fault and its fields."""
        if self.is_over:
            return ("over",)
        self.words = list(words)
        try:
            return ("thing", next(self.told))
        except StopIteration:
            found = ("over",)
        except Fault as fault:
            found = ("fault", fault.name, fault.at)
        except TooMuch as fault:
            found = ("much", fault.many)
        except Thrown as fault:
            found = ("thrown", fault.word)
        except Open:
            found = ("open",)
        self.is_over = True
        self.shut(())
        return found

    def close(self):
        """The names whose closings faulted by it."""
        if self.is_over:
            return []
        self.is_over = True
        many = len(self.not_shut)
        self.shut(())
        return self.not_shut[many:]

    def shut(self, spot):
        for other in list(reversed(self.opened)):
            if other[:len(spot)] == spot:
                self.opened.remove(other)
                try:
                    self.shelf.shut(self.readings[other])
                except NotShut as caught:
                    self.not_shut.append(caught.found)

    def node(self, plan, spot):
        call = {"while": self.while_, "else": self.else_}.get(plan[0]) or getattr(self, plan[0], self.leaf)
        many = {"behind": 2, "beside": 2, "merged": 2, "matched": 2, "else": 2}.get(plan[0], 1)
        if call == self.leaf:
            self.asked[spot] = 0
            return self.leaf(plan, spot)
        parts = [self.node(plan[at - many], (*spot, at)) for at in range(many)]
        return call(spot, *plan[1:len(plan) - many], *parts)

    def leaf(self, plan, spot):
        if plan[0] == "count":
            _, start, step, many = plan
            while many is None or self.asked[spot] < many:
                self.check_ask(spot)
                self.asked[spot] += 1
                yield start + step * (self.asked[spot] - 1)
            self.check_ask(spot)
            return
        tries = 0
        while True:
            self.check_ask(spot)
            if spot not in self.readings:
                self.readings[spot] = self.shelf.open_up(plan[-1])
                self.opened.append(spot)
            try:
                thing = self.shelf.ask(self.readings[spot])
            except Over:
                self.shut(spot)
                return
            except Fault:
                tries += 1
                if tries > (plan[1] if plan[0] == "again" else 0):
                    raise
                continue
            tries = 0
            self.asked[spot] += 1
            yield thing

    def check_ask(self, spot):
        if self.words:
            raise Thrown(self.words.pop())
        if self.asked[spot] == self.most:
            raise Open()

    def turned(self, spot, deeds, things):
        for thing in things:
            yield turned_by(deeds, thing)

    def chosen(self, spot, tests, things):
        for thing in things:
            if tests_hold(tests, thing):
                yield thing

    def while_(self, spot, tests, things):
        for thing in things:
            if not tests_hold(tests, thing):
                self.shut((*spot, 0))
                return
            yield thing

    def until(self, spot, tests, things):
        for thing in things:
            if tests_hold(tests, thing):
                self.shut((*spot, 0))
                yield thing
                return
            yield thing

    def first(self, spot, many, things):
        for at in range(many):
            found = next(things, self)
            if found is self:
                return
            if at == many - 1:
                self.shut((*spot, 0))
            yield found

    def skip(self, spot, many, things):
        for at, thing in enumerate(things):
            if at >= many:
                yield thing

    def windows(self, spot, many, things):
        kept = ()
        for thing in things:
            kept = (*kept, thing)[-many:]
            if len(kept) == many:
                yield kept

    def groups(self, spot, deeds, things):
        kept = []
        for thing in things:
            if kept and turned_by(deeds, kept[0]) != turned_by(deeds, thing):
                yield tuple(kept)
                kept = []
            kept.append(thing)
            if len(kept) == 8:
                yield tuple(kept)
                kept = []
        if kept:
            yield tuple(kept)

    def sums(self, spot, things):
        total = 0
        for thing in things:
            total += value_of(thing)
            yield total

    def flat(self, spot, things):
        for thing in things:
            if isinstance(thing, tuple):
                yield from thing
            else:
                yield thing

    def behind(self, spot, one, other):
        yield from one
        yield from other

    def beside(self, spot, one, other):
        for x in one:
            for y in other:
                yield (x, y)
                break
            else:
                if spot == ():
                    self.rest = x
                self.shut((*spot, 0))
                return
        self.shut((*spot, 1))

    def merged(self, spot, one, other):
        kept = [[], []]
        ended = [False, False]
        while True:
            for at, things in enumerate((one, other)):
                if not ended[at] and not kept[at]:
                    kept[at] = [thing for thing in [next(things, self)] if thing is not self]
                    ended[at] = not kept[at]
            if not kept[0] and not kept[1]:
                return
            at = 1 if not kept[0] or (kept[1] and value_of(kept[1][0]) < value_of(kept[0][0])) else 0
            yield kept[at].pop()

    def matched(self, spot, deeds, room, one, other):
        kept = []
        for y in other:
            if len(kept) == room:
                raise TooMuch(room)
            kept.append(y)
        if not kept:
            self.shut((*spot, 0))
            return
        for x in one:
            for y in kept:
                if turned_by(deeds, x) == turned_by(deeds, y):
                    yield (x, y)

    def else_(self, spot, one, other):
        try:
            yield from one
        except (Fault, Thrown, TooMuch):
            self.shut((*spot, 0))
            yield from other


DEEDS = ((), (("rest", 2),), (("rest", 3), ("add", 1)), (("times", 0),), (("add", 1),))
TESTS = (
    (((), "below", 5, True),), (((), "below", 5, False),), (((("rest", 4),), "is", 1, True),),
    (((), "parts", 2, True),), (((), "parts", 3, False), ((("add", 1),), "below", 20, True)), (((), "is", 3, True),),
)


def made_plan(chance, many, names):
    """A plan of at most so many tuples, over sources of these names."""
    if many < 2 or chance.random() < 0.1:
        return made_leaf(chance, names)
    word = chance.choice((
        "turned", "chosen", "while", "until", "first", "skip", "windows", "groups", "sums", "flat",
        "behind", "beside", "merged", "matched", "else", "behind", "beside", "merged", "matched", "else", "else"))
    ahead = {
        "turned": chance.choice(DEEDS), "groups": chance.choice(DEEDS), "chosen": chance.choice(TESTS),
        "while": chance.choice(TESTS), "until": chance.choice(TESTS), "first": chance.choice((0, 1, 2, 3, 5, 12)),
        "skip": chance.choice((0, 1, 3)), "windows": chance.choice((1, 2, 3)),
    }
    if word in ("sums", "flat"):
        return (word, made_plan(chance, many - 1, names))
    if word in ahead:
        return (word, ahead[word], made_plan(chance, many - 1, names))
    left = chance.randint(1, many - 2) if many > 2 else 1
    if many == 2:
        return made_leaf(chance, names)
    parts = (made_plan(chance, left, names), made_plan(chance, many - 1 - left, names))
    if word == "matched":
        kept = parts[1] if chance.random() < 0.2 else ("count", chance.randint(0, 2), 1, chance.randint(0, 4))
        return (word, chance.choice(DEEDS), chance.randint(1, 8), parts[0], kept)
    return (word, *parts)


def made_leaf(chance, names):
    kind = chance.random()
    if kind < 0.25:
        return ("count", chance.randint(-3, 5), chance.randint(-1, 3), chance.choice((None, 0, 1, 3, 8)))
    if kind < 0.4:
        return ("again", chance.randint(1, 3), chance.choice(names))
    return ("from", chance.choice(names))


def made_shelf(chance):
    """A shelf of six sources, of which some end, some fault, and of some closing faults."""
    shelf = Shelf()
    for name in ("a", "b", "c", "d", "e", "f"):
        things = [chance.randint(-2, 9) for _ in range(chance.choice((0, 1, 2, 3, 5, 9)))]
        then = chance.choice((None, None, (("add", 1),), (("times", 3), ("rest", 7)), (("times", 0),)))
        faults = {chance.randint(0, 6): chance.choice((1, 2, 3, None)) for _ in range(chance.choice((0, 0, 0, 1, 2)))}
        shelf.put_up(name, Source(things, then=then if things else None, page=chance.randint(1, 4),
                                  faults=faults or None, close_fault=chance.random() < 0.3))
    return shelf


def runs(many, seed, most=12):
    """So many tuples (chance, plan, shelf), the same ones each time."""
    chance = random.Random(seed)
    for _ in range(many):
        shelf = made_shelf(chance)
        plan = made_plan(chance, chance.randint(1, most), shelf.names())
        assert is_plan(plan)
        yield chance, plan, shelf
