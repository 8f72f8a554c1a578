"""Plans that are alike for all small sources, and the least contents of sources that part those which aren't."""

from greatrows.errors import TooMuch
from greatrows.nodes import leaves_in
from greatrows.plain import all_told
from greatrows.plans import names_in
from greatrows.shelves import Shelf
from greatrows.sources import Source
from greatrows.things import is_whole

MOST_NAMES = 2
MOST_NUMBERS = 3
GREATEST = 2
THINGS_LOOKED_AT = 12


def parted_by(one, other):
    """The least contents that part two plans, or None."""
    names = _names_of(one, other)
    accounts = [Account(one), Account(other)]
    for contents in _all_contents(names):
        if _parts(accounts, contents):
            return contents
    return None


def shows_parted(one, other, thing):
    """Whether it is contents that part two plans."""
    names = _names_of(one, other)
    if not isinstance(thing, dict) or len(thing) != len(names):
        return False
    if not all([name in thing and _is_content(thing[name]) for name in names]):
        return False
    return _parts([Account(one), Account(other)], thing)


class Account:
    """What a plan tells over sources of some contents; of equal contents it is reckoned once."""

    def __init__(self, plan):
        self._plan = plan
        self._names = names_in(plan)
        self._known = {}

    def told_over(self, contents):
        """The first things, how it goes on, and how many things each name is asked for, where there are some."""
        key = tuple([tuple(contents[name]) for name in self._names])
        if key not in self._known:
            self._known[key] = self._reckoned(contents)
        return self._known[key]

    def _reckoned(self, contents):
        shelf = Shelf()
        for name in self._names:
            shelf.put_up(name, Source(contents[name]))
        things, word, needs = all_told(self._plan, shelf, THINGS_LOOKED_AT)
        asked = {}
        for spot, leaf in leaves_in(self._plan):
            if leaf[0] != "count" and needs[spot] > 0:
                asked[leaf[-1]] = asked.get(leaf[-1], 0) + needs[spot]
        return things, word, asked


def _names_of(one, other):
    """The names in two plans, sorted."""
    names = sorted(set(names_in(one) + names_in(other)))
    if len(names) > MOST_NAMES:
        raise TooMuch(len(names))
    return names


def _parts(accounts, contents):
    one, other = accounts
    return one.told_over(contents) != other.told_over(contents)


def _is_content(thing):
    if not isinstance(thing, (list, tuple)) or len(thing) > MOST_NUMBERS:
        return False
    return all([is_whole(number, 0, GREATEST) for number in thing])


def _all_contents(names):
    """All contents, the lesser ones ahead."""
    rows = [()]
    for _ in names:
        rows = [(*row, numbers) for row in rows for numbers in _all_numbers()]
    rows = sorted(rows, key=lambda row: (sum([len(numbers) for numbers in row]), row))
    return [{name: list(numbers) for name, numbers in zip(names, row)} for row in rows]


def _all_numbers():
    """All lists of numbers that are content of one name."""
    found = [[]]
    longest = [[]]
    for _ in range(MOST_NUMBERS):
        longest = [[*numbers, number] for numbers in longest for number in range(GREATEST + 1)]
        found.extend(longest)
    return found
