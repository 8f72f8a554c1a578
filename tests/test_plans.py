"""Points 4 and 21 to 24: plans, their parts, spots and names, and plans made of others."""

import unittest

from greatrows.deeds import is_deeds, is_tests
from greatrows.errors import NoList, NoPlan, NoSpot, TooMuch
from greatrows.plans import (
    is_leaf, is_plan, names_in, nodes_in, part_at, parts_of, put_at, renamed, spots_of,
)
from greatrows.things import is_name
from helpers import Case, Own, copied, odd_things, shown
from made_plans import EDGES, LEAVES, OF_ONE, OF_TWO, ONE_TEST, PLANS, THIRTY, nest, tree

INPUTS = {
    **dict.fromkeys(("from", "again", "count"), 0),
    **dict.fromkeys(("turned", "chosen", "while", "until", "first", "skip", "windows", "groups", "sums", "flat"), 1),
    **dict.fromkeys(("behind", "beside", "merged", "matched", "else"), 2),
}


def whole(thing, low=None, high=None):
    if not isinstance(thing, int) or thing is True or thing is False:
        return False
    return (low is None or thing >= low) and (high is None or thing <= high)


def parts(plan):
    return [plan[len(plan) - INPUTS[plan[0]] + at] for at in range(INPUTS[plan[0]])]


def all_spots(plan, spot=()):
    """A dict from the spots, in order, to what stands there."""
    found = {spot: plan}
    for at, part in enumerate(parts(plan)):
        found.update(all_spots(part, (*spot, at)))
    return found


def no_plans():
    return odd_things() + [
        list(PLANS[0]), ("from", "a", "b"), ("FROM", "a"), ("sums", 1), ("sums", ["from", "a"]), nest(13), Own(),
        ("sums", None), ("behind", ("from", "a")), ("sums", ("from", "a"), ("from", "b")),
    ]


class IsPlan(Case):
    def test_plans(self):
        for plan in PLANS:
            self.assertIs(is_plan(plan), True, plan)
        self.assertIs(is_plan(thing=PLANS[0]), True)

    def test_any_thing(self):
        for thing in no_plans():
            self.assertIs(is_plan(thing), False, thing)
            for around in (("sums", thing), ("behind", thing, ("from", "a")), ("behind", ("from", "a"), thing),
                           ("first", 3, ("merged", ("from", "a"), ("flat", thing)))):
                self.assertIs(is_plan(around), False)

    def test_at_most_twelve_tuples(self):
        for many in range(1, 20):
            for leaf in LEAVES:
                self.assertIs(is_plan(nest(many, leaf)), many <= 12)
        for one in range(1, 13):
            for other in range(1, 13):
                self.assertIs(is_plan(("else", nest(one), nest(other))), one + other <= 11)
        self.assertIs(is_plan(("beside", tree(11), ("from", "a"))), False)

    def test_a_tuple_that_stands_twice_counts_twice(self):
        plan = ("from", "a")
        for many in (3, 7, 15, 31):
            plan = ("behind", plan, plan)
            self.assertIs(is_plan(plan), many <= 12)
        for _ in range(60):
            plan = ("behind", plan, plan)
        self.assertIs(is_plan(plan), False)

    def test_deep_ones(self):
        self.assertIs(is_plan(nest(20_000)), False)

    def check_places(self, make, fits, *others):
        """What make tells of a thing is a plan just where the thing fits."""
        for thing in (*odd_things(), *range(-2, 64), *others):
            self.assertIs(is_plan(make(thing)), fits(thing), make(thing))

    def test_leaves(self):
        self.check_places(lambda thing: ("from", thing), is_name)
        self.check_places(lambda thing: ("again", 2, thing), is_name)
        self.check_places(lambda thing: ("again", thing, "a"), lambda thing: whole(thing, 1, 5))
        many = (10 ** 29, -10 ** 29, THIRTY, -THIRTY)
        self.check_places(lambda thing: ("count", thing, 1, None), whole, *many)
        self.check_places(lambda thing: ("count", 1, thing, 5), whole, *many)
        self.check_places(lambda thing: ("count", 1, 1, thing), lambda thing: thing is None or whole(thing, 0, 60))

    def test_nodes_of_one(self):
        leaf = ("from", "a")
        deeds = ((), (("rest", 0),), (("add", 1),) * 8, (("add", 1),) * 9)
        tests = ((), ONE_TEST, ONE_TEST * 8, ONE_TEST * 9, (((), "is", 1, 1),))
        for word in ("turned", "groups"):
            self.check_places(lambda thing: (word, thing, leaf), is_deeds, *deeds, *tests)
        for word in ("chosen", "while", "until"):
            self.check_places(lambda thing: (word, thing, leaf), is_tests, *deeds, *tests)
        for word in ("first", "skip"):
            self.check_places(lambda thing: (word, thing, leaf), lambda thing: whole(thing, 0, 60))
        self.check_places(lambda thing: ("windows", thing, leaf), lambda thing: whole(thing, 1, 8))

    def test_nodes_of_two(self):
        one, other = ("from", "a"), ("from", "b")
        self.check_places(lambda thing: ("matched", thing, 2, one, other), is_deeds, (("rest", 0),))
        self.check_places(lambda thing: ("matched", (), thing, one, other), lambda thing: whole(thing, 1, 8))
        self.assertIs(is_plan(("matched", 2, (), one, other)), False)

    def test_how_many_parts_a_tuple_has(self):
        for plan in PLANS:
            self.assertIs(is_plan(plan[:-1]), False)
            self.assertIs(is_plan((*plan, ("from", "a"))), False)
            self.assertIs(is_plan(plan[1:]), False)
            self.assertIs(is_plan(list(plan)), False)

    def test_words(self):
        for head in (*LEAVES, *OF_ONE, *OF_TWO):
            inputs = [("from", "a")] * INPUTS[head[0]]
            self.assertIs(is_plan((*head, *inputs)), True)
            for word in (head[0] + " ", head[0].upper(), head[0][:-1], None, True, 0, [head[0]], (head[0],), Own()):
                self.assertIs(is_plan((word, *head[1:], *inputs)), False)
            for many in range(4):
                self.assertIs(is_plan((*head, *[("from", "a")] * many)), many == INPUTS[head[0]])


class Parts(Case):
    def test_leaves_and_inputs(self):
        for plan in PLANS:
            self.assertIs(is_leaf(plan), plan[0] in ("from", "again", "count"))
            self.check_told(parts_of(plan), parts(plan))
            self.check_told(spots_of(plan), list(all_spots(plan)))
            self.check_told(nodes_in(plan), len(all_spots(plan)))

    def test_by_hand(self):
        one, other = ("from", "a"), ("sums", ("again", 1, "b"))
        plan = ("matched", (), 2, other, ("behind", one, other))
        self.assertIs(is_leaf(one), True)
        self.assertIs(is_leaf(("count", 0, 0, 0)), True)
        self.assertIs(is_leaf(plan), False)
        self.check_told(parts_of(one), [])
        self.check_told(parts_of(other), [("again", 1, "b")])
        self.check_told(parts_of(plan), [other, ("behind", one, other)])
        self.check_told(spots_of(one), [()])
        self.check_told(spots_of(plan), [(), (0,), (0, 0), (1,), (1, 0), (1, 1), (1, 1, 0)])
        self.check_told(nodes_in(plan), 7)
        self.check_told(names_in(plan), ["b", "a"])
        self.assertEqual([nodes_in(nest(many)) for many in range(1, 13)], list(range(1, 13)))

    def test_names(self):
        for plan in PLANS:
            expected = []
            for part in all_spots(plan).values():
                if part[0] in ("from", "again") and part[-1] not in expected:
                    expected.append(part[-1])
            self.check_told(names_in(plan), expected)
        self.check_told(names_in(("count", 1, 2, 3)), [])
        self.check_told(names_in(("behind", ("from", "b"), ("beside", ("from", "a"), ("from", "b")))), ["b", "a"])

    def test_lists_are_new_ones_each_time(self):
        for plan in EDGES:
            for call in (parts_of, spots_of, names_in):
                told = call(plan)
                before = list(told)
                told.append(None)
                told.reverse()
                self.check_told(call(plan), before)

    def test_refusals(self):
        for call in (is_leaf, parts_of, spots_of, names_in, nodes_in):
            for thing in no_plans():
                self.check_refused(NoPlan, {"found": thing}, call, thing)
            self.assertIsNotNone(call(plan=PLANS[-1]))


class PartAt(Case):
    def test_all_spots(self):
        for plan in PLANS:
            for spot, part in all_spots(plan).items():
                self.check_told(part_at(plan, spot), part)
        self.check_told(part_at(spot=(0,), plan=("sums", ("from", "a"))), ("from", "a"))

    def wrong_spots(self, plan):
        spots = all_spots(plan)
        around = [(*spot, at) for spot in spots for at in (-1, 0, 1, 2) if (*spot, at) not in spots]
        lists = [list(spot) for spot in spots]
        truths = [tuple(bool(at) if k == turn else at for k, at in enumerate(spot))
                  for spot in spots for turn in range(len(spot))]
        return [*around, *lists, *truths, (None,), ("0",), ((0,),), ([],), 0, "0", {}, (0,) * 40, (0, Own())]

    def test_what_is_no_spot(self):
        for plan in EDGES:
            for thing in (*self.wrong_spots(plan), *odd_things()):
                if shown(thing) not in [shown(spot) for spot in all_spots(plan)]:
                    self.check_refused(NoSpot, {"found": thing}, part_at, plan, thing)
                    self.check_refused(NoSpot, {"found": thing}, put_at, plan, thing, ("from", "z"))
                    self.check_refused(NoSpot, {"found": thing}, put_at, plan, thing, None)
                    self.check_refused(NoSpot, {"found": thing}, put_at, plan, thing, nest(12))

    def test_truths_in_a_spot(self):
        plan = ("behind", ("from", "a"), ("from", "b"))
        for spot in ((True,), (False,)):
            self.check_refused(NoSpot, {"found": spot}, part_at, plan, spot)
            self.check_refused(NoSpot, {"found": spot}, put_at, plan, spot, plan)

    def test_what_is_no_plan(self):
        for thing in no_plans():
            for spot in ((), (0,), None, [0]):
                self.check_refused(NoPlan, {"found": thing}, part_at, thing, spot)
                self.check_refused(NoPlan, {"found": thing}, put_at, thing, spot, ("from", "a"))
                self.check_refused(NoPlan, {"found": thing}, put_at, thing, spot, None)


class PutAt(Case):
    def test_all_spots(self):
        for plan in PLANS[::7]:
            for spot in all_spots(plan):
                for other in (("from", "z"), ("count", 1, 1, None), ("else", ("sums", ("from", "y")), ("from", "x"))):
                    many = len(all_spots(plan)) - len(all_spots(all_spots(plan)[spot])) + len(all_spots(other))
                    if many > 12:
                        self.check_refused(TooMuch, {"many": many}, put_at, plan, spot, other)
                        continue
                    told = put_at(plan, spot, other)
                    self.assertIs(is_plan(told), True)
                    expected = {k: part[0] for k, part in all_spots(plan).items() if k[:len(spot)] != spot}
                    expected |= {(*spot, *k): part[0] for k, part in all_spots(other).items()}
                    self.assertEqual({k: part[0] for k, part in all_spots(told).items()}, expected)
                    self.check_told(all_spots(told)[spot], other)
                    self.check_told(put_at(told, spot, all_spots(plan)[spot]), plan)

    def test_by_hand(self):
        plan = ("matched", (("rest", 2),), 3, ("from", "a"), ("first", 2, ("from", "b")))
        for spot, told in (
            ((), ("from", "z")), ((0,), (*plan[:3], ("from", "z"), plan[4])), ((1,), (*plan[:4], ("from", "z"))),
            ((1, 0), (*plan[:4], ("first", 2, ("from", "z")))),
        ):
            self.check_told(put_at(plan, spot, ("from", "z")), told)
            self.check_told(put_at(other=("from", "z"), spot=spot, plan=plan), told)

    def test_more_than_twelve_tuples(self):
        for many in range(1, 13):
            plan = nest(many)
            for depth in range(many):
                for other in range(1, 13):
                    if depth + other > 12:
                        self.check_refused(
                            TooMuch, {"many": depth + other}, put_at, plan, (0,) * depth, nest(other))
                    else:
                        self.assertEqual(nodes_in(put_at(plan, (0,) * depth, nest(other))), depth + other)

    def test_the_other_one_is_no_plan(self):
        for thing in no_plans():
            for plan in EDGES:
                self.check_refused(NoPlan, {"found": thing}, put_at, plan, (), thing)
                if len(plan) > 2 and plan[0] not in ("count", "again"):
                    self.check_refused(NoPlan, {"found": thing}, put_at, plan, (0,), thing)


class Renamed(Case):
    def test_names(self):
        plan = ("behind", ("from", "a"), ("beside", ("again", 2, "b"), ("merged", ("from", "c"), ("from", "a"))))
        for names, told in (
            ({}, "abca"), ({"a": "x"}, "xbcx"), ({"a": "b", "b": "a"}, "bacb"), ({"a": "b", "b": "c", "c": "a"}, "bcab"),
            ({"a": "b"}, "bbcb"), ({"z": "a", "q": "b"}, "abca"), ({"b": "b"}, "abca"), ({"c": "a", "a": "z"}, "zbaz"),
        ):
            first, second, third, fourth = told
            self.check_told(renamed(plan, names), (
                "behind", ("from", first),
                ("beside", ("again", 2, second), ("merged", ("from", third), ("from", fourth)))))

    def test_nothing_else_is_changed(self):
        for plan in PLANS:
            self.check_told(renamed(plan, {}), plan)
            self.check_told(renamed(plan, {"sums": "x", "on": "y", "add": "z", "qqq": "a"}), plan)
            turned = renamed(names={"a": "b", "b": "a"}, plan=plan)
            self.assertEqual([part[0] for part in all_spots(turned).values()],
                             [part[0] for part in all_spots(plan).values()])
            self.check_told(renamed(turned, {"b": "a", "a": "b"}), plan)
            self.check_told(names_in(turned), [{"a": "b", "b": "a"}.get(name, name) for name in names_in(plan)])

    def test_what_is_no_dict_of_names(self):
        for thing in (*odd_things(), [("a", "b")], (("a", "b"),), {"a": ""}, {"": "a"}, {"a": None}, {None: "a"},
                      {"a": "b", "c": 1}, {"a": "b", True: "c"}, {"a": "B"}, {"A": "b"}, {"a": "abcdefghi"},
                      {"abcdefghi": "a"}, {"zz": ["a"]}, {("a",): "b"}):
            if thing != {}:
                self.check_refused(NoList, {"found": thing}, renamed, ("from", "a"), thing)
                self.check_refused(NoList, {"found": thing}, renamed, ("count", 1, 1, 1), thing)

    def test_what_is_no_plan(self):
        for thing in no_plans():
            for names in ({}, {"a": "b"}, None, [1]):
                self.check_refused(NoPlan, {"found": thing}, renamed, thing, names)

    def test_the_dict_stays_as_it_is(self):
        names = {"a": "b", "b": "a"}
        renamed(nest(12), names)
        self.assertEqual(list(names.items()), [("a", "b"), ("b", "a")])


class Unchanged(Case):
    def test_equal_questions_have_equal_answers(self):
        for plan in EDGES:
            other = copied(plan)
            for call in (is_plan, is_leaf, parts_of, spots_of, names_in, nodes_in):
                self.check_told(call(plan), call(other))


if __name__ == "__main__":
    unittest.main()
