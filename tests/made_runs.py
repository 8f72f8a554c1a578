"""What the tests of runs share: long runs, where asks wait, and logs that are compared thing by thing."""

import random

from greatrows.plans import is_plan
from greatrows.shelves import Shelf
from greatrows.sources import Source
from helpers import answer

ON = (("add", 1),)
NEVER = (((), "below", -1, True),)
RARE = tuple((((("rest", many),), "is", at, True),) for many in (2, 5, 20, 90, 190, 199, 200, 201, 250, 400)
             for at in (0, many - 1))
LATE = tuple((((), "below", many, False),) for many in (5, 150, 199, 200, 201, 350))
LEAVES = (
    ("from", "a"), ("from", "b"), ("again", 1, "a"), ("again", 2, "c"), ("again", 5, "b"),
    ("count", 0, 1, None), ("count", 0, 1, 60), ("count", 3, 2, 17),
)


def long_shelf(chance):
    """A shelf of three sources, of which some are endless, and of which some fault near the 200th thing."""
    shelf = Shelf()
    for name in ("a", "b", "c"):
        faults = {chance.choice((0, 1, 5, 50, 150, 199, 200, 201, 399)): chance.choice((1, 2, 3, 5, 6, None))
                  for _ in range(chance.choice((0, 0, 1, 2)))}
        things = [chance.randint(-2, 9) for _ in range(chance.choice((1, 3, 40)))]
        shelf.put_up(name, Source(things, then=chance.choice((None, ON, ON)), page=chance.randint(1, 8),
                                  faults=faults or None, close_fault=chance.random() < 0.3))
    return shelf


def long_plan(chance, many):
    """A plan that asks its leaves often for few things."""
    if many <= 0:
        return chance.choice(LEAVES)
    kind = chance.random()
    if kind < 0.4:
        return ("chosen", chance.choice(RARE + LATE), long_plan(chance, many - 1))
    if kind < 0.75:
        head = chance.choice((
            ("turned", ()), ("turned", ON), ("turned", (("rest", 7),)), ("windows", 2), ("windows", 8), ("skip", 3),
            ("skip", 60), ("first", 3), ("first", 60), ("flat",), ("sums",), ("groups", (("rest", 3),)),
            ("while", (((), "below", 300, True),)), ("until", (((), "is", 250, True),))))
        return (*head, long_plan(chance, many - 1))
    head = chance.choice((("behind",), ("else",), ("merged",), ("beside",)))
    return (*head, long_plan(chance, many // 2), long_plan(chance, many // 2))


def long_runs(many, seed):
    """So many tuples (chance, plan, shelf), the same ones each time."""
    chance = random.Random(seed)
    left = many
    while left:
        plan = long_plan(chance, chance.randint(1, 6))
        if is_plan(plan):
            left -= 1
            yield chance, plan, long_shelf(chance)


def by_things(log):
    """The log's rows without loads, asks of a lot one by one; and how many calls told, faulted or ended."""
    rows = []
    calls = 0
    for row in log:
        calls += row[0] in ("ask", "fault", "end")
        if row[0] == "ask":
            rows.extend(("ask", row[1], row[2] + at, 1) for at in range(row[3]))
        elif row[0] != "load":
            rows.append(row)
    return rows, calls


def drawn_order(chance, spots):
    """An order of turns that has each spot, and perhaps some more than once; a list or a tuple."""
    order = [*spots, *(chance.choice(spots) for _ in range(chance.choice((0, 0, 1, 2, 8, 30))))]
    chance.shuffle(order)
    return chance.choice((order, tuple(order)))


def loads(log):
    return [row for row in log if row[0] == "load"]


class RowOfLots:
    """What lots must tell, by a row."""

    def __init__(self, row):
        self.row = row
        self.waiting = None

    def lot(self, many):
        if self.waiting is not None:
            came = self.waiting
            self.waiting = None
            return came
        things = []
        while len(things) < many:
            came = answer(self.row.ask)
            if came[0] != "thing":
                if not things:
                    return came
                self.waiting = came
                break
            things.append(came[1])
        return ("thing", things)
