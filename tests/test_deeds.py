"""Points 3, 14, 15 and 16: deeds, tests, and their texts."""

import itertools
import unittest

from greatrows.deeds import (
    deeds_text, is_deeds, is_tests, read_deeds, read_tests, tests_behind, tests_hold, tests_text, turned_by,
)
from greatrows.errors import NoDeeds, NoTests, NoThing, TooMuch
from helpers import Case, Own, odd_things

THIRTY = 10 ** 30 - 1
DEED_WORDS = ("add", "times", "rest")
TEST_WORDS = ("below", "parts", "is")
DEEDS = (
    (), (("add", 0),), (("add", 1),), (("times", 0),), (("times", -3),), (("rest", 1),), (("rest", 7),),
    (("add", 5), ("rest", 3)), (("rest", 3), ("add", 5)), (("times", 2), ("add", -7), ("rest", 5), ("times", -1)),
    (("add", -THIRTY), ("rest", THIRTY)), (("add", 1),) * 8,
    (("add", 1), ("times", 2), ("rest", 100), ("add", -3), ("times", -1), ("rest", 9), ("times", 4), ("add", 2)),
)
SIMPLE = tuple(
    ((deeds, word, number, truth),)
    for deeds in ((), (("add", 2),), (("times", -1), ("rest", 4)))
    for word, number in (("below", 3), ("below", -1), ("parts", 1), ("parts", 3), ("is", 0), ("is", 2), ("is", -5))
    for truth in (True, False)
)
TESTS = (
    *SIMPLE,
    (((), "below", 5, True), ((), "parts", 2, False)),
    (((("rest", 5),), "below", 3, True), ((), "is", 1, False), ((("add", 1),), "parts", 3, True)),
    tuple(((("add", at),) * at, TEST_WORDS[at % 3], at + 1, at % 2 == 0) for at in range(8)),
)
THINGS = (
    *range(-12, 13), 100, -101, THIRTY, -THIRTY,
    (), (3,), (1, 2, 4), ((), (-5, (6, 1))), (THIRTY, 1), ((1,) * 8,) * 8,
)


def value(thing):
    return thing if isinstance(thing, int) else sum([value(part) for part in thing])


def number_turned(deeds, number):
    for word, by in deeds:
        number = {"add": number + by, "times": number * by, "rest": number - number // by * by if by else None}[word]
    return number


def holds(test, thing):
    deeds, word, number, truth = test
    behind = number_turned(deeds, value(thing))
    if word == "below":
        return (behind < number) is truth
    if word == "is":
        return (behind == number) is truth
    return (behind // number * number == behind) is truth


class IsDeeds(Case):
    def test_deeds(self):
        for deeds in DEEDS:
            self.assertIs(is_deeds(deeds), True)
        for number in (-THIRTY, -1, 0, 1, THIRTY):
            self.assertIs(is_deeds((("add", number),)), True)
            self.assertIs(is_deeds((("times", number),)), True)
            self.assertIs(is_deeds((("rest", number),)), number >= 1)

    def test_none_to_eight(self):
        for many in range(12):
            for word in DEED_WORDS:
                self.assertIs(is_deeds(((word, 2),) * many), many <= 8)
            self.assertIs(is_deeds([("add", 2)] * many), False)

    def test_each_place_is_looked_at(self):
        for at in range(8):
            for wrong in (("rest", 0), ("add", True), ("sub", 1), ("add",), ("add", 1, 1), ["add", 1], "add 1", None):
                deeds = [("add", 1)] * 8
                deeds[at] = wrong
                self.assertIs(is_deeds(tuple(deeds)), False)

    def test_what_is_no_deed(self):
        for thing in (*odd_things(), "Add", "add ", "below", "parts", "is", b"add"):
            self.assertIs(is_deeds((thing,)), isinstance(thing, tuple) and thing == ("add", 1))
            self.assertIs(is_deeds(((thing, 1),)), False)
            number = isinstance(thing, int) and not isinstance(thing, bool)
            self.assertIs(is_deeds((("add", thing),)), number)
            self.assertIs(is_deeds((("times", thing),)), number)
            self.assertIs(is_deeds((("rest", thing),)), number and thing >= 1)

    def test_any_thing(self):
        for thing in odd_things():
            self.assertIs(is_deeds(thing), isinstance(thing, tuple) and thing in ((), (("add", 1),)))
        self.assertIs(is_deeds(thing=()), True)
        self.assertIs(is_deeds("add 1"), False)


class IsTests(Case):
    def test_tests(self):
        for tests in TESTS:
            self.assertIs(is_tests(tests), True)
        for number in (-THIRTY, -1, 0, 1, THIRTY):
            self.assertIs(is_tests((((), "below", number, True),)), True)
            self.assertIs(is_tests((((), "is", number, False),)), True)
            self.assertIs(is_tests((((), "parts", number, True),)), number >= 1)

    def test_one_to_eight(self):
        for many in range(12):
            self.assertIs(is_tests((((), "is", 3, True),) * many), 1 <= many <= 8)
            self.assertIs(is_tests([((), "is", 3, True)] * many), False)

    def test_deeds_of_a_test(self):
        for many in range(12):
            self.assertIs(is_tests((((("add", 1),) * many, "is", 3, True),)), many <= 8)
        for thing in odd_things():
            self.assertIs(is_tests(((thing, "is", 3, True),)), is_deeds(thing))
        self.assertIs(is_tests((([], "is", 3, True),)), False)

    def test_truths_are_no_numbers(self):
        for thing in (*odd_things(), "yes", "no", 1, 0):
            self.assertIs(is_tests((((), "is", 3, thing),)), thing is True or thing is False)

    def test_words_and_numbers(self):
        for thing in (*odd_things(), "add", "rest", "Below", "is ", b"is"):
            number = isinstance(thing, int) and not isinstance(thing, bool)
            self.assertIs(is_tests((((), thing, 3, True),)), False)
            self.assertIs(is_tests((((), "is", thing, True),)), number)
            self.assertIs(is_tests((((), "below", thing, True),)), number)
            self.assertIs(is_tests((((), "parts", thing, True),)), number and thing >= 1)

    def test_each_place_is_looked_at(self):
        for at in range(8):
            for wrong in (((), "parts", 0, True), ((), "is", 1), ((), "is", 1, True, True), [(), "is", 1, True],
                          ((), "is", True, True), ((), "is", 1, 1), None, "none is 1 yes", ()):
                tests = [((), "is", 1, True)] * 8
                tests[at] = wrong
                self.assertIs(is_tests(tuple(tests)), False)

    def test_any_thing(self):
        for thing in odd_things():
            self.assertIs(is_tests(thing), False)
        self.assertIs(is_tests(thing=(((), "is", 1, True),)), True)
        self.assertIs(is_tests(((), "is", 1, True)), False)


class Turned(Case):
    def test_all_deeds_on_all_things(self):
        for deeds in DEEDS:
            for thing in THINGS:
                expected = number_turned(deeds, value(thing)) if deeds else thing
                self.check_told(turned_by(deeds, thing), expected)

    def test_by_hand(self):
        for deeds, thing, told in (
            ((("add", 3),), 4, 7), ((("times", 3),), -4, -12), ((("rest", 5),), -1, 4), ((("rest", 5),), 10, 0),
            ((("rest", 5),), -10, 0), ((("add", 2), ("times", 3)), 1, 9), ((("times", 3), ("add", 2)), 1, 5),
            ((("add", 0),), (1, (2, 3)), 6), ((("add", 0),), (), 0), ((("rest", 1),), 17, 0),
        ):
            self.check_told(turned_by(deeds, thing), told)

    def test_no_deeds_leave_a_thing_as_it_is(self):
        for thing in ((1, 2), ((), (3,)), ()):
            self.assertIs(turned_by((), thing), thing)

    def test_rest_lies_from_nought_on(self):
        for by in range(1, 9):
            for number in range(-20, 21):
                told = turned_by((("rest", by),), number)
                self.assertIn(told, range(by))
                self.assertEqual((number - told) // by * by, number - told)

    def test_deep_things(self):
        thing = 4
        for _ in range(20_000):
            thing = (thing,)
        self.assertEqual(turned_by((("add", 1),), thing), 5)
        self.assertIs(turned_by((), thing), thing)

    def test_refusals(self):
        for deeds in odd_things():
            if not is_deeds(deeds):
                for thing in (1, (2,), None, "a", [1], Own()):
                    self.check_refused(NoDeeds, {"found": deeds}, turned_by, deeds, thing)
                    self.check_refused(NoDeeds, {"found": deeds}, turned_by, thing=thing, deeds=deeds)
        for deeds in ((), (("add", 1),), (("rest", 2),)):
            for thing in (None, True, False, "", "1", [], [1], {}, Own(), (True,), (1,) * 9, ((None,),)):
                self.check_refused(NoThing, {"found": thing}, turned_by, deeds, thing)


class Hold(Case):
    def test_all_tests_on_all_things(self):
        for tests in TESTS:
            for thing in THINGS:
                self.assertIs(tests_hold(tests, thing), all(holds(test, thing) for test in tests))

    def test_by_hand(self):
        for test, thing, told in (
            (((), "below", 3, True), 2, True), (((), "below", 3, True), 3, False), (((), "below", 3, False), 3, True),
            (((), "parts", 3, True), 6, True), (((), "parts", 3, True), 0, True), (((), "parts", 3, True), -4, False),
            (((), "parts", 3, False), -3, False), (((), "is", 3, True), 3, True), (((), "is", 3, False), 3, False),
            (((), "is", 3, True), (1, (2,)), True), (((("add", 1),), "is", 3, True), (1, (1,)), True),
            (((("rest", 3),), "below", 2, True), -1, False), (((), "parts", 1, True), -1, True),
        ):
            self.assertIs(tests_hold((test,), thing), told)

    def test_each_must_hold(self):
        yes, no = ((), "is", 1, True), ((), "is", 1, False)
        for many in range(1, 9):
            for tests in itertools.product((yes, no), repeat=many):
                self.assertIs(tests_hold(tests, 1), no not in tests)

    def test_refusals(self):
        for tests in odd_things():
            for thing in (1, None, [1]):
                self.check_refused(NoTests, {"found": tests}, tests_hold, tests, thing)
                self.check_refused(NoTests, {"found": tests}, tests_hold, thing=thing, tests=tests)
        for thing in (None, True, False, "", "1", [], [1], {}, Own(), (True,), (1,) * 9, ((None,),)):
            self.check_refused(NoThing, {"found": thing}, tests_hold, TESTS[0], thing)
            self.check_refused(NoThing, {"found": thing}, tests_hold, TESTS[-1], thing)


class Behind(Case):
    def test_one_for_one(self):
        for tests in TESTS:
            for deeds in DEEDS:
                most = len(deeds) + max(len(test[0]) for test in tests)
                if most > 8:
                    self.check_refused(TooMuch, {"many": most}, tests_behind, tests, deeds)
                    continue
                told = tests_behind(tests, deeds)
                self.check_told(told, tuple((deeds + test[0], *test[1:]) for test in tests))
                self.assertIs(is_tests(told), True)
                for thing in THINGS:
                    self.assertIs(tests_hold(told, thing), tests_hold(tests, turned_by(deeds, thing)))

    def test_by_hand(self):
        tests = (((("times", 2),), "below", 9, True), ((), "is", 4, False))
        told = tests_behind(tests=tests, deeds=(("add", 1), ("rest", 7)))
        self.check_told(told, (
            ((("add", 1), ("rest", 7), ("times", 2)), "below", 9, True), ((("add", 1), ("rest", 7)), "is", 4, False),
        ))

    def test_the_most_deeds_of_one(self):
        for many in range(9):
            for first, second in ((0, 8), (8, 0), (3, 5), (5, 2), (1, 1)):
                tests = ((("add", 1),) * first, "is", 1, True), ((("add", 2),) * second, "is", 1, True)
                most = many + max(first, second)
                if most > 8:
                    self.check_refused(TooMuch, {"many": most}, tests_behind, tests, (("rest", 3),) * many)
                else:
                    self.assertEqual(max(len(test[0]) for test in tests_behind(tests, (("rest", 3),) * many)), most)

    def test_refusals(self):
        eight = ((("add", 1),) * 8, "is", 1, True),
        for thing in odd_things():
            for other in ((), None, [1], (("add", 1),)):
                self.check_refused(NoTests, {"found": thing}, tests_behind, thing, other)
            if not is_deeds(thing):
                self.check_refused(NoDeeds, {"found": thing}, tests_behind, TESTS[0], thing)
                self.check_refused(NoDeeds, {"found": thing}, tests_behind, eight, thing)
                self.check_refused(NoDeeds, {"found": thing}, tests_behind, deeds=thing, tests=TESTS[-1])


class Texts(Case):
    def test_texts_of_deeds(self):
        for deeds, text in (
            ((), "none"), ((("add", 1),), "add 1"), ((("times", -30),), "times -30"), ((("rest", 5),), "rest 5"),
            ((("add", 0), ("rest", 12), ("times", 7)), "add 0 rest 12 times 7"),
            ((("add", -THIRTY),) * 8, " ".join([f"add -{THIRTY}"] * 8)),
        ):
            self.check_told(deeds_text(deeds), text)
            self.check_told(read_deeds(text), deeds)

    def test_texts_of_tests(self):
        for tests, text in (
            ((((("add", 2), ("rest", 5)), "below", 3, True), ((), "is", 0, False)),
             "add 2 rest 5 below 3 yes and none is 0 no"),
            ((((), "parts", 1, True),), "none parts 1 yes"),
            ((((), "is", -4, False),) * 8, " and ".join(["none is -4 no"] * 8)),
        ):
            self.check_told(tests_text(tests), text)
            self.check_told(read_tests(text), tests)

    def test_what_is_written_is_read(self):
        for deeds in DEEDS:
            self.check_told(read_deeds(deeds_text(deeds)), deeds)
            self.check_told(read_deeds(thing=deeds_text(deeds=deeds)), deeds)
        for tests in TESTS:
            self.check_told(read_tests(tests_text(tests)), tests)
            self.check_told(read_tests(thing=tests_text(tests=tests)), tests)

    def test_refusals(self):
        for thing in odd_things():
            if not is_deeds(thing):
                self.check_refused(NoDeeds, {"found": thing}, deeds_text, thing)
            self.check_refused(NoTests, {"found": thing}, tests_text, thing)
        self.check_refused(NoTests, {"found": ()}, tests_text, ())

    def test_what_is_no_text(self):
        for thing in (*odd_things(), b"none", b"add 1", ["none"], ("add 1",), (("add", 1),), (((), "is", 1, True),)):
            if not isinstance(thing, str):
                self.assertIs(read_deeds(thing), None)
                self.assertIs(read_tests(thing), None)

    def test_texts_that_write_no_deeds(self):
        for text in ("", " ", "add", "1", "add 1 ", " add 1", "add  1", "add 1  rest 2", "add 1 rest", "add 1 2", "add add 1",
                     "add 01", "add -0", "add +1", "add 1\n", "\nadd 1", "add\n1", "rest 0", "rest -1", "sub 1", "Add 1",
                     "none none", "none ", " none", "None", "none add 1", "add 1 none", "add 1, rest 2", "add one",
                     "add 1 and add 2", "below 3", "is 3", " ".join(["add 1"] * 9), "add 1.0", "add 1 rest 0",
                     "none is 0 no"):
            self.assertIs(read_deeds(text), None, repr(text))
        self.check_told(read_deeds(" ".join(["add 1"] * 8)), (("add", 1),) * 8)

    def test_texts_that_write_no_tests(self):
        good = "add 2 below 3 yes"
        for text in ("", "none", "yes", "is 0 no", "none is 0", "none 0 no", "none is no", "none is 0 No", "none is 0 true",
                     "none is 0 no ", " none is 0 no", "none  is 0 no", "none is  0 no", "none is 0  no", "none is 0 no\n",
                     "none none is 0 no", "none add 1 is 0 no", "none parts 0 yes", "none parts -2 yes", "none is -0 no",
                     "none is 00 no", "none is 0 no yes", "none is is 0 no", "none as 0 no", "none add 0 no",
                     good + " and", "and " + good, good + " and and " + good, good + " and  " + good,
                     good + "  and " + good, good + " " + good, good + "and " + good, good + " and " + good + " and ",
                     good + ", " + good, good + " or " + good, good + "\n" + good, good + " and " + good + " and",
                     " and ".join([good] * 9), " ".join(["add 1"] * 9) + " is 0 no", " is 0 no", "rest 0 is 0 no"):
            self.assertIs(read_tests(text), None, repr(text))
        self.check_told(read_tests(" and ".join([good] * 8)), (((("add", 2),), "below", 3, True),) * 8)
        self.check_told(read_tests(" ".join(["add 1"] * 8) + " is 0 no"), (((("add", 1),) * 8, "is", 0, False),))

    def test_a_text_that_is_read_is_the_one_that_is_written(self):
        texts = ["none", "add 2 rest 5", "times -1", "add 2 rest 5 below 3 yes and none is 0 no", "none parts 7 no"]
        for text in texts:
            for at in range(len(text) + 1):
                for sign in ("", " ", "0", "-", "1", "a", "\n", " and "):
                    for changed in (text[:at] + sign + text[at:], text[:at] + sign + text[at + 1:]):
                        deeds, tests = read_deeds(changed), read_tests(changed)
                        if deeds is not None:
                            self.assertEqual(deeds_text(deeds), changed)
                        if tests is not None:
                            self.assertEqual(tests_text(tests), changed)

    def test_all_short_rows_of_words(self):
        words = ("add", "rest", "none", "is", "parts", "1", "0", "-2", "yes", "and", "")
        deeds = {deeds_text(told): told for many in range(3) for told in itertools.product(
            [(word, number) for word in ("add", "rest") for number in (1, 0, -2) if word == "add" or number == 1],
            repeat=many)}
        tests = {tests_text(((ahead, word, number, True),)): ((ahead, word, number, True),)
                 for ahead in deeds.values() for word in ("is", "parts") for number in (1, 0, -2)
                 if word == "is" or number == 1}
        for many in range(1, 5):
            for row in itertools.product(words, repeat=many):
                text = " ".join(row)
                self.check_told(read_deeds(text), deeds.get(text))
                self.check_told(read_tests(text), tests.get(text))


if __name__ == "__main__":
    unittest.main()
