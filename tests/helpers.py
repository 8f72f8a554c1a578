"""What several test files use: odd things, and checks of refusals."""

import copy
import unittest

from greatrows import errors
from greatrows.shelves import Shelf


class Own:
    """An object that is equal to nothing else."""


def odd_things():
    """New things of every kind."""
    return [
        None, True, False, 0, 1, -1, 7, 61, 10 ** 29, -10 ** 39,
        "", "a", "none", "Ab", "abcdefghi", "add 1", "3", "sums",
        [], [1], ["a"], [[1]], [("add", 1)],
        (), (1,), (True,), ("a",), (1,) * 9, ((),), ("add", 1), (("add", 1),), [("from", "a")],
        ((), "is", 1, True), ("sums",), ("from",), ("from", "A"),
        {}, {"a": 1}, {1: 2}, {"a": "B"}, {(): None}, Own(), errors.NoName, errors.Over(),
    ]


class Case(unittest.TestCase):
    """A test case that knows what a refusal must be like."""

    def check_refused(self, error, fields, call, *args, **named):
        """The call is refused with just this class, its fields are the very things, nothing is changed."""
        before = shown([args, named])
        with self.assertRaises(errors.PlanError if issubclass(error, errors.PlanError) else error) as caught:
            call(*args, **named)
        found = caught.exception
        self.assertIs(found.__class__, error, f"{args!r} {named!r}")
        self.assertEqual(sorted(vars(found)), sorted(fields))
        for name, thing in fields.items():
            if isinstance(thing, int) and not isinstance(thing, bool):
                self.assertIs(found.__dict__[name].__class__, thing.__class__)
                self.assertEqual(found.__dict__[name], thing)
            else:
                self.assertIs(found.__dict__[name], thing)
        self.assertEqual(shown([args, named]), before)

    def check_told(self, told, expected):
        """What is told is equal, truths being no numbers, lists no tuples."""
        self.assertEqual(shown(told), shown(expected))


def shelf_of(**sources):
    """A shelf of these sources."""
    shelf = Shelf()
    for name, source in sources.items():
        shelf.put_up(name, source)
    return shelf


def answer(call, *args):
    """What came of a call, as a tuple."""
    try:
        return ("thing", call(*args))
    except errors.Over:
        return ("over",)
    except errors.Fault as fault:
        return ("fault", fault.name, fault.at)
    except errors.TooMuch as much:
        return ("much", much.many)
    except errors.Thrown as thrown:
        return ("thrown", thrown.word)
    except errors.Waits as waits:
        return ("waits", waits.many)
    except errors.NotShut as caught:
        return ("not shut", caught.found)


def shown(thing):
    """A text by which truths and numbers, lists and tuples differ; dicts by rising keys."""
    if isinstance(thing, dict):
        return "{" + ", ".join(sorted([f"{shown(key)}: {shown(thing[key])}" for key in thing])) + "}"
    if isinstance(thing, list):
        return "[" + ", ".join([shown(part) for part in thing]) + "]"
    if isinstance(thing, tuple):
        return "(" + ", ".join([shown(part) for part in thing]) + ")"
    return repr(thing)


def copied(thing):
    """A copy that has nothing in common with the thing."""
    return copy.deepcopy(thing)
