"""Whole numbers, names, things and their values, and numbers plainly written."""

from greatrows.errors import NoNumber, NoThing

LETTERS = "abcdefghijklmnopqrstuvwxyz"
MOST_LETTERS = 8
MOST_THINGS = 8
FIGURES_AT_ONCE = 18


def is_whole(thing, low, high):
    """Whether it is a whole number from low to high, None being no bound."""
    if not isinstance(thing, int) or isinstance(thing, bool):
        return False
    return (low is None or low <= thing) and (high is None or thing <= high)


def is_name(thing):
    """Whether it is a text of one to eight small letters."""
    if not isinstance(thing, str) or not 1 <= len(thing) <= MOST_LETTERS:
        return False
    return all([sign in LETTERS for sign in thing])


def is_thing(thing):
    """Whether it is a whole number, or a tuple of none to eight things."""
    # Things may lie deeper within one another than calls may, so a list holds what is to be seen yet.
    unseen = [thing]
    while unseen:
        part = unseen.pop()
        if isinstance(part, tuple) and len(part) <= MOST_THINGS:
            unseen.extend(part)
        elif not is_whole(part, None, None):
            return False
    return True


def value_of(thing):
    """A number itself; the sum of the values of a tuple's things."""
    if is_whole(thing, None, None):
        return thing
    total = 0
    unseen = [thing]
    while unseen:
        part = unseen.pop()
        if isinstance(part, tuple) and len(part) <= MOST_THINGS:
            unseen.extend(part)
        elif is_whole(part, None, None):
            total = total + part
        else:
            raise NoThing(thing)
    return total


def number_in(thing, *, least=None, most=None):
    """The number from least to most that it plainly writes, or None."""
    for bound in (least, most):
        if bound is not None and not is_whole(bound, None, None):
            raise NoNumber(bound)
    if not _writes_number(thing):
        return None
    number = _number_of(thing)
    return number if is_whole(number, least, most) else None


def _writes_number(thing):
    """Whether it is a text that plainly writes a whole number."""
    if not isinstance(thing, str):
        return False
    if thing == "0":
        return True
    figures = thing.removeprefix("-")
    return figures.isascii() and figures.isdigit() and not figures.startswith("0")


def _number_of(text):
    """The whole number that a text plainly writes."""
    figures = text.removeprefix("-")
    # Python refuses to read very long numbers at once, and a text may have such a one.
    ahead = len(figures) % FIGURES_AT_ONCE
    number = int("0" + figures[:ahead])
    for at in range(ahead, len(figures), FIGURES_AT_ONCE):
        number = number * 10 ** 18 + int(figures[at:at + FIGURES_AT_ONCE])
    return -number if text.startswith("-") else number
