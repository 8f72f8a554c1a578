"""Points 2, 12 and 13: whole numbers, names, things, values, numbers plainly written."""

import itertools
import unittest

from greatrows.errors import NoNumber, NoThing
from greatrows.things import is_name, is_thing, is_whole, number_in, value_of
from helpers import Case, Own, copied, odd_things, shown

THIRTY = 10 ** 30 - 1
FORTY = 10 ** 40 - 1
NO_WHOLE = (None, True, False, "", "1", "a", [], [1], (), (1,), {}, {1: 1}, Own(), NoNumber(1), NoNumber)


def deep(thing, times):
    for _ in range(times):
        thing = (thing,)
    return thing


class Whole(Case):
    def test_numbers_without_bounds(self):
        for number in (0, 1, -1, 60, THIRTY, -THIRTY, FORTY, -FORTY):
            self.assertIs(is_whole(number, None, None), True)

    def test_what_is_no_number(self):
        for thing in NO_WHOLE:
            for low, high in ((None, None), (0, 1), (0, None), (None, 1), (-FORTY, FORTY)):
                self.assertIs(is_whole(thing, low, high), False)

    def test_bounds_are_counted(self):
        for middle in (0, 5, -5, THIRTY, -THIRTY, FORTY, -FORTY):
            for by in range(-3, 4):
                number = middle + by
                self.assertIs(is_whole(number, middle, None), by >= 0)
                self.assertIs(is_whole(number, None, middle), by <= 0)
                self.assertIs(is_whole(number, middle - 1, middle + 1), -1 <= by <= 1)
                self.assertIs(is_whole(number, middle, middle), by == 0)
                self.assertIs(is_whole(number, middle + 1, middle - 1), False)

    def test_a_bound_of_nought_is_one(self):
        self.assertIs(is_whole(-1, 0, None), False)
        self.assertIs(is_whole(1, None, 0), False)
        self.assertIs(is_whole(0, 0, 0), True)

    def test_by_names(self):
        self.assertIs(is_whole(thing=3, low=3, high=4), True)
        self.assertIs(is_whole(high=4, low=3, thing=5), False)


class Name(Case):
    def test_names(self):
        for text in ("a", "z", "from", "abcdefgh", "zzzzzzzz", "none", "then"):
            self.assertIs(is_name(text), True)
        for letter in "abcdefghijklmnopqrstuvwxyz":
            self.assertIs(is_name(letter), True)
        for many in range(12):
            self.assertIs(is_name("q" * many), 1 <= many <= 8)

    def test_signs_that_are_none(self):
        for code in range(32, 127):
            sign = bytes([code]).decode("ascii")
            for text in (sign, "a" + sign, sign + "a", "a" + sign + "b"):
                self.assertIs(is_name(text), sign in "abcdefghijklmnopqrstuvwxyz", text)
        for text in ("a\n", "\na", "\n", "\u00e9", "a\u00df", "\u00aa", "ab\u0455"):
            self.assertIs(is_name(text), False)

    def test_what_is_no_text(self):
        for thing in odd_things():
            if not isinstance(thing, str):
                self.assertIs(is_name(thing), False)
        for thing in (b"a", ["a"], ("a",), {"a": "a"}, ("a", "b")):
            self.assertIs(is_name(thing), False)

    def test_by_name(self):
        self.assertIs(is_name(thing="ab"), True)


class Thing(Case):
    def test_numbers_and_tuples_of_none_to_eight(self):
        for thing in (0, -THIRTY, FORTY, (), (1,), ((),), (1, (2, (3, ())), -4)):
            self.assertIs(is_thing(thing), True)
        for many in range(12):
            self.assertIs(is_thing((3,) * many), many <= 8)
            self.assertIs(is_thing(((3,) * many,)), many <= 8)
            self.assertIs(is_thing((1, ((), ((3,) * many, 2)))), many <= 8)

    def test_what_is_none(self):
        for thing in (None, True, False, "", "a", [], [1], {}, {1: 1}, Own()):
            for around in (thing, (thing,), (1, thing), (thing, 1), ((), (1, (2, (thing,)))), deep(thing, 25)):
                self.assertIs(is_thing(around), False)

    def test_it_looks_at_no_depth(self):
        for times in (8, 9, 30, 999, 5000, 100_000):
            self.assertIs(is_thing(deep(3, times)), True)
            self.assertIs(is_thing(deep((), times)), True)
            self.assertIs(is_thing(deep(True, times)), False)
            self.assertIs(is_thing(deep((1,) * 9, times)), False)

    def test_by_name(self):
        self.assertIs(is_thing(thing=(1,)), True)


class Value(Case):
    def test_values(self):
        for thing, value in (
            (0, 0), (-7, -7), (FORTY, FORTY), ((), 0), ((5,), 5), ((1, 2, 3), 6), (((), ((),)), 0),
            ((1, (2, (3, (4,), -10)), 5), 5), ((THIRTY, THIRTY, (-THIRTY,)), THIRTY), ((1,) * 8, 8),
            (((2,) * 8,) * 8, 128),
        ):
            self.check_told(value_of(thing), value)

    def test_however_deep(self):
        for times in (30, 999, 100_000):
            self.check_told(value_of(deep(3, times)), 3)
            self.check_told(value_of(deep((4, 5), times)), 9)
        thing = 0
        for _ in range(5000):
            thing = (thing, 1)
        self.check_told(value_of(thing), 5000)

    def test_what_is_no_thing(self):
        for thing in odd_things():
            if not is_thing(thing):
                self.check_refused(NoThing, {"found": thing}, value_of, thing)
        for part in (None, True, "a", [], {}, Own(), (1,) * 9):
            for thing in ((part,), (1, part), (part, 1), (1, (2, part))):
                self.check_refused(NoThing, {"found": thing}, value_of, thing)
        self.check_refused(NoThing, {"found": False}, value_of, thing=False)

    def test_what_is_no_thing_however_deep(self):
        for times in (30, 5000, 100_000):
            thing = deep(False, times)
            with self.assertRaises(NoThing) as caught:
                value_of(thing)
            self.assertIs(caught.exception.found, thing)

    def test_the_refusal_has_the_very_thing(self):
        thing = [1]
        with self.assertRaises(NoThing) as caught:
            value_of(thing)
        thing.append(2)
        self.assertIs(caught.exception.found, thing)
        self.assertEqual(caught.exception.found, [1, 2])

    def test_by_name(self):
        self.assertEqual(value_of(thing=(1, 2)), 3)


class Number(Case):
    def test_numbers_plainly_written(self):
        for number in (0, 1, 9, 10, 19, 100, -1, -10, 17, 10 ** 17, 10 ** 18, 10 ** 18 - 1, 10 ** 19,
                       THIRTY, -THIRTY, FORTY, -FORTY, 10 ** 36, 123456789012345678901234567890):
            self.check_told(number_in(str(number)), number)

    def test_long_numbers(self):
        for many in (200, 3999):
            self.assertEqual(number_in("9" * many), 10 ** many - 1)
            self.assertEqual(number_in("-1" + "0" * many), -10 ** many)

    def test_a_text_far_too_long_lies_beyond_the_bounds(self):
        for many in (4301, 5990):
            self.assertIs(number_in("1" + "0" * many, least=0, most=60), None)
            self.assertIs(number_in("-1" + "0" * many, least=0, most=60), None)

    def test_all_short_texts(self):
        plain = {str(number): number for number in range(-9999, 10000)}
        for many in range(5):
            for signs in itertools.product("-0129 +a.", repeat=many):
                text = "".join(signs)
                self.check_told(number_in(text), plain.get(text))

    def test_what_is_not_plain(self):
        for text in ("-0", "00", "01", "-01", "+1", "--1", "-", "", " ", " 1", "1 ", "1\n", "\n1", "1 2", "1_000",
                     "1-", "1.0", "1e3", "0x1", "- 1", "\u0661", "\u00b2", "1\u0661", "\uff11", "1,2", "-+1", "one"):
            self.assertIs(number_in(text), None, repr(text))

    def test_any_other_thing(self):
        for thing in odd_things():
            if not isinstance(thing, str):
                self.assertIs(number_in(thing), None)
                self.assertIs(number_in(thing, least=-FORTY, most=FORTY), None)
        for thing in (b"1", ["1"], ("1",), {"1": "1"}):
            self.assertIs(number_in(thing), None)

    def test_bounds_are_counted(self):
        for middle in (0, 5, -5, THIRTY, -THIRTY, FORTY, -FORTY):
            for by in range(-3, 4):
                number = middle + by
                text = str(number)
                self.check_told(number_in(text, least=middle), number if by >= 0 else None)
                self.check_told(number_in(text, most=middle), number if by <= 0 else None)
                self.check_told(number_in(text, least=middle - 1, most=middle + 1), number if -1 <= by <= 1 else None)
                self.check_told(number_in(text, least=None, most=None), number)
                self.check_told(number_in(text, most=middle, least=middle), number if by == 0 else None)
                self.check_told(number_in(text, least=middle + 1, most=middle - 1), None)

    def test_nought_is_told_as_a_number(self):
        self.check_told(number_in("0", least=0, most=0), 0)

    def test_bounds_that_are_none(self):
        for bound in NO_WHOLE:
            if bound is None:
                continue
            for thing in ("1", "x", None, [1]):
                self.check_refused(NoNumber, {"found": bound}, number_in, thing, least=bound)
                self.check_refused(NoNumber, {"found": bound}, number_in, thing, most=bound)
                self.check_refused(NoNumber, {"found": bound}, number_in, thing, least=bound, most=[])
                self.check_refused(NoNumber, {"found": bound}, number_in, thing, most=bound, least=3)

    def test_bounds_are_handed_in_by_their_names_alone(self):
        self.assertRaises(TypeError, number_in, "1", 1)
        self.assertRaises(TypeError, number_in, "1", 1, 2)
        self.assertEqual(number_in(thing="7"), 7)


class Unchanged(Case):
    def test_nothing_that_is_handed_in_is_changed(self):
        for thing in odd_things():
            if isinstance(thing, (Own, BaseException)):
                continue
            before = copied(thing)
            for call in (is_name, is_thing, number_in):
                call(thing)
            is_whole(thing, 1, 2)
            self.assertEqual(shown(thing), shown(before))


if __name__ == "__main__":
    unittest.main()
