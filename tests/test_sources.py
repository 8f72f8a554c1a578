"""Points 31 and 32: sources."""

import itertools
import unittest

from greatrows.deeds import is_deeds, turned_by
from greatrows.errors import NoDeeds, NoList, NoNumber, NoTruth, Over
from greatrows.sources import Source
from helpers import Case, Own, odd_things, shown

THIRTY = 10 ** 30 - 1
MADE = (
    ([], None), ([7], None), ([3, 1, 2], None), (list(range(40)), None), ([THIRTY, -THIRTY], None),
    ([0], (("add", 1),)), ([5, 9], (("times", 2), ("rest", 7))), ([-4], (("rest", 3),)), ([1, 1], (("times", -1),)),
    (list(range(40)), (("add", -3), ("times", 2), ("rest", 50), ("add", 1), ("add", 1), ("add", 1), ("add", 1), ("rest", 9))),
)


def no_numbers():
    return [None, True, False, "", "1", [], [1], (), (1,), {}, {1: 1}, Own()]


class Things(Case):
    def test_things_by_their_numbers(self):
        for things, then in MADE:
            source = Source(things, then=then)
            expected = list(things)
            while then is not None and len(expected) < 120:
                expected.append(turned_by(then, expected[-1]))
            for number in range(120):
                if number < len(expected):
                    self.check_told(source.thing(number), expected[number])
                else:
                    self.check_refused(Over, {}, source.thing, number)
            self.check_told(source.how_many(), len(things) if then is None else None)

    def test_by_hand(self):
        source = Source([4, 2], then=(("add", 3),))
        self.assertEqual([source.thing(number) for number in range(6)], [4, 2, 5, 8, 11, 14])
        self.assertEqual(source.thing(number=5), 14)
        self.assertIs(source.how_many(), None)
        source = Source(things=(4, 2), then=None)
        self.assertEqual([source.thing(number) for number in (1, 0, 1)], [2, 4, 2])
        self.check_told(source.how_many(), 2)
        self.check_told(Source([]).how_many(), 0)

    def test_faults_change_no_thing(self):
        source = Source([4, 2], then=(("add", 3),), page=2, faults={0: None, 1: 2, 5: 9}, close_fault=True)
        self.assertEqual([source.thing(number) for number in range(6)], [4, 2, 5, 8, 11, 14])
        source = Source([4, 2], faults={2: None})
        self.check_refused(Over, {}, source.thing, 2)

    def test_a_thing_far_beyond(self):
        self.assertEqual(Source([4], then=(("add", 3),)).thing(99_999), 4 + 3 * 99_999)
        self.assertEqual(Source([1], then=(("times", 3), ("rest", 1000))).thing(50_000), pow(3, 50_000, 1000))
        self.check_refused(Over, {}, Source([4]).thing, 99_999)
        self.check_refused(Over, {}, Source([4]).thing, 10 ** 29)

    def test_numbers_that_are_none(self):
        for source in (Source([]), Source([1, 2, 3]), Source([1], then=(("add", 1),))):
            for thing in (*no_numbers(), -1, -5, -THIRTY):
                self.check_refused(NoNumber, {"found": thing}, source.thing, thing)

    def test_a_source_never_changes(self):
        source = Source([4, 2], then=(("add", 3),), faults={1: 1})
        before = shown(source.told())
        source.thing(20)
        self.check_refused(NoNumber, {"found": -1}, source.thing, -1)
        self.assertEqual(shown(source.told()), before)
        self.assertEqual(source.thing(1), 2)


class Told(Case):
    def test_what_it_was_made_of(self):
        self.check_told(Source([]).told(), ((), None, 1, (), False))
        self.check_told(
            Source([3, 1], then=(("add", 1),), page=8, faults={7: 1, 0: None, 399: 9}, close_fault=True).told(),
            ((3, 1), (("add", 1),), 8, ((0, None), (7, 1), (399, 9)), True))
        for things, then in MADE:
            for page in range(1, 9):
                self.check_told(Source(things, then=then, page=page).told(), (tuple(things), then, page, (), False))

    def test_no_faults(self):
        for faults in (None, {}):
            source = Source([1], faults=faults)
            self.check_told(source.told(), ((1,), None, 1, (), False))
            self.assertEqual(source, Source([1]))

    def test_faults_rising(self):
        for order in itertools.permutations([(11, 2), (3, None), (200, 1)]):
            self.check_told(Source([1], faults=dict(order)).told()[3], ((3, None), (11, 2), (200, 1)))

    def test_what_was_handed_in_may_change_later(self):
        things, faults = [1, 2], {0: 1}
        source = Source(things, faults=faults)
        things.append(3)
        things[0] = 9
        faults[1] = None
        faults[0] = 5
        self.check_told(source.told(), ((1, 2), None, 1, ((0, 1),), False))
        self.assertEqual(source.how_many(), 2)
        self.assertEqual(source.thing(0), 1)

    def test_what_is_handed_in_is_not_changed(self):
        things, faults = [3, 1, 2], {9: 1, 0: None}
        Source(things, faults=faults).thing(1)
        self.assertEqual(things, [3, 1, 2])
        self.assertEqual(list(faults.items()), [(9, 1), (0, None)])


class Equal(Case):
    KINDS = (
        {"things": [1, 2]}, {"things": [2, 1]}, {"things": [1]}, {"things": [1, 2, 3]}, {"things": []},
        {"things": [1, 2], "page": 2}, {"things": [1, 2], "then": (("add", 1),)}, {"things": [1, 2], "then": (("add", 2),)},
        {"things": [1, 2], "faults": {0: 1}}, {"things": [1, 2], "faults": {0: None}}, {"things": [1, 2], "faults": {1: 1}},
        {"things": [1, 2], "faults": {300: 1}}, {"things": [1, 2], "close_fault": True}, {"things": [0, 1]},
        {"things": [1, 2], "faults": {0: 1, 1: 1}}, {"things": [1, 2, 3], "then": (("add", 1),)},
    )

    def test_equal_and_unlike(self):
        for one, other in itertools.product(range(len(self.KINDS)), repeat=2):
            first, second = Source(**self.KINDS[one]), Source(**self.KINDS[other])
            self.assertIs(first == second, one == other)
            self.assertIs(first != second, one != other)

    def test_lists_and_tuples_make_equal_ones(self):
        self.assertIs(Source([1, 2]) == Source((1, 2)), True)
        self.assertIs(Source([1], faults={3: 1, 2: 2}) == Source([1], faults={2: 2, 3: 1}), True)

    def test_other_things(self):
        source = Source([1])
        for thing in (*odd_things(), source.told()):
            self.assertIs(source == thing, False)
            self.assertIs(source != thing, True)


class Refused(Case):
    def check(self, error, found, *args, **named):
        self.check_refused(error, {"found": found}, Source, *args, **named)

    def test_things(self):
        for thing in odd_things():
            if isinstance(thing, (list, tuple)):
                continue
            self.check(NoList, thing, thing)
            self.check(NoList, thing, things=thing)
        for many in (41, 42, 100):
            for things in ([1] * many, (1,) * many, [None] * many):
                self.check(NoList, things, things)
        self.assertEqual(Source([1] * 40).how_many(), 40)
        self.assertEqual(Source((1,) * 40).how_many(), 40)

    def test_the_first_that_is_no_number(self):
        for thing in no_numbers():
            for ahead in range(40):
                for behind in ([], [[]], [2]):
                    things = ([1] * ahead + [thing] + behind)[:40]
                    if thing not in things[:ahead]:
                        self.check(NoNumber, thing, things)
                        self.check(NoNumber, thing, tuple(things))

    def test_then(self):
        for thing in odd_things():
            if thing is not None and (not is_deeds(thing) or thing == ()):
                self.check(NoDeeds, thing, [1], then=thing)
                self.check(NoDeeds, thing, [], then=thing)
        for thing in ((("rest", 0),), (("add", 1),) * 9, [("add", 1)], (("add", True),)):
            self.check(NoDeeds, thing, [1], then=thing)
        self.assertIs(Source([1], then=(("add", 1),) * 8).how_many(), None)

    def test_page(self):
        for thing in (*no_numbers(), 0, 9, -1, THIRTY):
            self.check(NoNumber, thing, [1], page=thing)

    def test_faults(self):
        for thing in odd_things():
            if thing is not None and thing != {} and thing != {1: 2}:
                self.check(NoList, thing, [1], faults=thing)
        for faults in (
            {-1: 1}, {400: 1}, {0: 0}, {0: 10}, {0: -1}, {0: True}, {True: 1}, {False: None}, {0: "1"}, {"0": 1}, {0: [1]},
            {None: 1}, {0: False}, {(0,): 1}, {0: 1, 1: 1, 2: 0}, {0: 1, 400: 1}, {at: 1 for at in range(41)}, {0: ()},
            [(0, 1)], ((0, 1),), [0],
        ):
            self.check(NoList, faults, [1], faults=faults)
        for faults in ({0: 1}, {399: 9}, {0: None}, {at: None for at in range(40)}, {at: 5 for at in range(360, 400)}):
            self.check_told(Source([1], faults=faults).told()[3], tuple(sorted(faults.items())))

    def test_closing(self):
        for thing in odd_things():
            if thing is not True and thing is not False:
                self.check(NoTruth, thing, [1], close_fault=thing)

    def test_no_things_go_with_no_deeds(self):
        for things in ([], ()):
            self.check(NoList, things, things, then=(("add", 1),))
            self.check(NoList, things, things, then=(("add", 1),), page=8, faults={0: 1}, close_fault=True)
            self.assertEqual(Source(things, faults={0: 1}).how_many(), 0)

    def test_the_first_refusal_that_is_due_goes(self):
        wrong = (
            ("things", None, NoList), ("things", [1, "a"], NoNumber), ("then", (), NoDeeds), ("page", 0, NoNumber),
            ("faults", {0: 0}, NoList), ("close_fault", 1, NoTruth),
        )
        for one, other in itertools.combinations(wrong, 2):
            if one[0] != other[0]:
                named = {"things": [1], other[0]: other[1], one[0]: one[1]}
                found = one[1][1] if one[2] is NoNumber and one[0] == "things" else one[1]
                self.check(one[2], found, **named)
        for name, thing, error in wrong[3:]:
            self.check(error, thing, [], then=(("add", 1),), **{name: thing})

    def test_by_name_alone_behind_the_star(self):
        self.assertRaises(TypeError, Source, [1], None)
        self.assertRaises(TypeError, Source)


if __name__ == "__main__":
    unittest.main()
