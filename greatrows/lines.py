"""The lines that a desk takes, read as tuples: the word, and behind it what the line tells."""

from greatrows.deeds import read_deeds
from greatrows.things import is_name, number_in

MOST_THINGS_ASKED = 60
CLOSES = {"badly": True, "well": False}
# What stands behind the word of a line, by the kinds that `_read_part` knows.
FORMS = {
    "row": ("name", "name"), "lots": ("name", "name"), "hands": ("name", "name", "number"),
    "ask": ("name", "asked"), "throw": ("name", "name"), "close": ("name",),
    "show": ("name",), "plain": ("name", "number"), "asked": ("name",), "log": (), "ahead": ("name",),
    "cheapest": ("name",), "parted": ("name", "name"), "names": (),
}


def read_line(thing):
    """What a line tells, or None of what is none."""
    if not isinstance(thing, str):
        return None
    words = thing.split(" ")
    if words[0] == "source":
        return _read_source(words)
    if words[0] == "plan":
        return _read_plan_line(thing)
    if words[0] not in FORMS or len(words) != 1 + len(FORMS[words[0]]):
        return None
    parts = [_read_part(kind, word) for kind, word in zip(FORMS[words[0]], words[1:])]
    return None if None in parts else (words[0], *parts)


def _read_part(kind, word):
    """What a word tells, or None."""
    if kind == "number":
        return number_in(word)
    if kind == "asked":
        return number_in(word, least=1, most=MOST_THINGS_ASKED)
    return word if is_name(word) else None


def _read_plan_line(line):
    """A tuple of the word, the name and the rows; these are all that stands behind the blank, perhaps nothing."""
    words = line.split(" ", 2)
    if len(words) != 3 or not is_name(words[1]):
        return None
    return ("plan", words[1], words[2].replace(" / ", "\n"))


def _read_source(words):
    """A tuple of the word, the name, and what a source is made of."""
    if len(words) < 6 or not is_name(words[1]) or words[1] == "then":
        return None
    things = _read_things(words[2])
    page = number_in(words[3])
    faults = _read_faults(words[4])
    then = _read_then(words[6:])
    if things is None or page is None or faults is None or words[5] not in CLOSES or then is None:
        return None
    return ("source", words[1], things, page, faults, CLOSES[words[5]], *then)


def _read_things(word):
    if word == "none":
        return []
    things = [number_in(figures) for figures in word.split(",")]
    return None if None in things else things


def _read_faults(word):
    """A dict, of which the last one holds of several for one thing; or None."""
    if word == "none":
        return {}
    faults = {}
    for text in word.split(","):
        at, _, many = text.partition(":")
        if number_in(at) is None or (many != "all" and number_in(many) is None):
            return None
        faults[number_in(at)] = number_in(many)
    return faults


def _read_then(words):
    """A list of None, or of the deeds; or None."""
    if not words:
        return [None]
    deeds = read_deeds(" ".join(words[1:]))
    return None if words[0] != "then" or deeds is None else [deeds]
