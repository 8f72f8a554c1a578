"""Deeds that turn things, tests that hold of things, and the texts of both."""

from greatrows.errors import NoDeeds, NoTests, NoThing, TooMuch
from greatrows.things import is_thing, is_whole, number_in, value_of

MOST_DEEDS = 8
MOST_TESTS = 8
LEAST_OF_DEED = {"add": None, "times": None, "rest": 1}
LEAST_OF_TEST = {"below": None, "parts": 1, "is": None}
TRUTHS = {"yes": True, "no": False}


def is_deeds(thing):
    """Whether it is a tuple of none to eight deeds."""
    if not isinstance(thing, tuple) or len(thing) > MOST_DEEDS:
        return False
    return all([_is_deed(part) for part in thing])


def is_tests(thing):
    """Whether it is a tuple of one to eight tests."""
    if not isinstance(thing, tuple) or not 1 <= len(thing) <= MOST_TESTS:
        return False
    return all([_is_test(part) for part in thing])


def turned_by(deeds, thing):
    """The thing turned by the deeds: itself where there are none, else a number."""
    if not is_deeds(deeds):
        raise NoDeeds(deeds)
    if not is_thing(thing):
        raise NoThing(thing)
    return thing_turned(deeds, thing)


def tests_hold(tests, thing):
    """Whether each of the tests holds of the thing."""
    if not is_tests(tests):
        raise NoTests(tests)
    return all_hold(tests, value_of(thing))


def tests_behind(tests, deeds):
    """The tests that hold of a thing just where these hold of the thing turned by the deeds."""
    if not is_tests(tests):
        raise NoTests(tests)
    if not is_deeds(deeds):
        raise NoDeeds(deeds)
    most = len(deeds) + max([len(test[0]) for test in tests])
    if most > MOST_DEEDS:
        raise TooMuch(most)
    return tuple([((*deeds, *own), word, number, truth) for own, word, number, truth in tests])


def deeds_text(deeds):
    """The text that writes the deeds."""
    if not is_deeds(deeds):
        raise NoDeeds(deeds)
    return " ".join([f"{word} {number}" for word, number in deeds]) if deeds else "none"


def tests_text(tests):
    """The text that writes the tests."""
    if not is_tests(tests):
        raise NoTests(tests)
    return " and ".join([_test_text(test) for test in tests])


def read_deeds(thing):
    """The deeds that a text writes, or None."""
    if not isinstance(thing, str):
        return None
    if thing == "none":
        return ()
    words = thing.split(" ")
    if len(words) % 2 == 1:
        return None
    deeds = tuple([(word, number_in(figures)) for word, figures in zip(words[::2], words[1::2])])
    return deeds if is_deeds(deeds) else None


def read_tests(thing):
    """The tests that a text writes, or None."""
    if not isinstance(thing, str):
        return None
    tests = tuple([_read_test(text) for text in thing.split(" and ")])
    return tests if is_tests(tests) else None


def thing_turned(deeds, thing):
    """The thing turned by the deeds, which are known to be some."""
    return number_behind(deeds, value_of(thing)) if deeds else thing


def all_hold(tests, value):
    """Whether each of the tests, which are known to be some, holds of a value."""
    return all([_test_holds(test, value) for test in tests])


def number_behind(deeds, number):
    """The number behind the deeds, which are known to be some."""
    for word, by in deeds:
        if word == "add":
            number = number + by
        elif word == "times":
            number = number * by
        else:
            number = number % by
    return number


def _is_deed(thing):
    if not isinstance(thing, tuple) or len(thing) != 2:
        return False
    word, number = thing
    return isinstance(word, str) and word in LEAST_OF_DEED and is_whole(number, LEAST_OF_DEED[word], None)


def _is_test(thing):
    if not isinstance(thing, tuple) or len(thing) != 4:
        return False
    deeds, word, number, truth = thing
    if not is_deeds(deeds) or not isinstance(truth, bool):
        return False
    return isinstance(word, str) and word in LEAST_OF_TEST and is_whole(number, LEAST_OF_TEST[word], None)


def _test_holds(test, value):
    deeds, word, number, truth = test
    behind = number_behind(deeds, value)
    if word == "below":
        return (behind < number) == truth
    if word == "parts":
        return (behind % number == 0) == truth
    return (behind == number) == truth


def _test_text(test):
    deeds, word, number, truth = test
    return " ".join([deeds_text(deeds), word, str(number), "yes" if truth else "no"])


def _read_test(text):
    """What a text writes behind the form of a test; what doesn't fit there is None."""
    words = text.split(" ")
    if len(words) < 4:
        return None
    *ahead, word, figures, truth = words
    return read_deeds(" ".join(ahead)), word, number_in(figures), TRUTHS.get(truth)
