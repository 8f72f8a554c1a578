"""Point 125: plans that are alike for all small sources, and contents that part those which aren't."""

import itertools
import unittest

from greatrows.alike import parted_by, shows_parted
from greatrows.errors import NoPlan, TooMuch
from greatrows.plain import plain_told
from greatrows.plans import is_plan, names_in, renamed, spots_of
from greatrows.rewriting import rewritten, rules_at
from greatrows.shelves import Shelf
from greatrows.sources import Source
from helpers import Case, odd_things, shown
from made_runs import NEVER, ON
from model import Run, runs

A, B, C = ("from", "a"), ("from", "b"), ("from", "c")
COUNT = ("count", 0, 1, None)
ODD = (((("rest", 2),), "is", 1, True),)
LISTS = [list(row) for many in range(4) for row in itertools.product(range(3), repeat=many)]


def contents_of(names):
    """All contents, the lesser ones first."""
    found = [dict(zip(names, lists)) for lists in itertools.product(LISTS, repeat=len(names))]
    return sorted(found, key=lambda each: (sum(map(len, each.values())), [each[name] for name in names]))


def account(plan, contents):
    """The first twelve things, the word, and how often each name's things were asked, by a run of generators."""
    shelf = Shelf()
    for name, things in contents.items():
        shelf.put_up(name, Source(things))
    run = Run(plan, shelf, most=1600)
    things = []
    word = "more"
    while word == "more" and len(things) < 12:
        came = run.ask()
        if came[0] == "thing":
            things.append(came[1])
        else:
            word = {"over": "over", "open": "open"}.get(came[0], "fault")
    return things, word, [shelf.told_of(name) for name in sorted(contents)]


def small_runs(many, seed):
    """Tuples (chance, plan): plans over two names at most, of which none goes on without telling anything."""
    left = many
    for chance, plan, _ in runs(50 * many, seed, most=5):
        plan = renamed(plan, {name: chance.choice("ab") for name in names_in(plan)})
        shelf = Shelf()
        shelf.put_up("a", Source([2, 0]))
        shelf.put_up("b", Source([1]))
        if left and plain_told(plan, shelf, 12)[1] != "open":
            left -= 1
            yield chance, plan


class Parted(Case):
    def check_parted(self, one, other, told):
        self.check_told(parted_by(one, other), told)
        self.check_told(parted_by(other=other, one=one), told)
        self.check_told(parted_by(other, one), told)
        if told is not None:
            self.check_told(list(told), sorted(told))
            self.assertIs(shows_parted(one, other, told), True)

    def test_against_an_account_that_goes_through_all_contents(self):
        came = {None: 0}
        plans = list(small_runs(60, 125))
        for (chance, one), (_, other) in zip(plans, plans[1:]):
            if chance.random() < 0.5:
                fits = [(rule, spot) for spot in spots_of(one) for rule in rules_at(one, spot)]
                other = rewritten(one, *chance.choice(fits)) if fits else one
            names = sorted({*names_in(one), *names_in(other)})
            told = parted_by(one, other)
            for contents in contents_of(names):
                parts = account(one, contents) != account(other, contents)
                if parts or chance.random() < 0.02:
                    self.assertIs(shows_parted(one, other, contents), parts)
                if parts:
                    self.check_told(told, contents)
                    self.check_told(list(told), names)
                    break
            else:
                self.assertIs(told, None)
            came[told and sum(map(len, told.values()))] = 1 + came.get(told and sum(map(len, told.values())), 0)
        self.assertGreater(came[None], 5)
        self.assertGreater(len(came), 2)

    def test_no_names(self):
        self.check_parted(COUNT, COUNT, None)
        self.check_parted(COUNT, ("count", 0, 1, 60), None)
        self.check_parted(COUNT, ("count", 0, 1, 12), None)
        self.check_parted(COUNT, ("count", 0, 1, 11), {})
        self.check_parted(COUNT, ("count", 1, 1, None), {})
        self.check_parted(("chosen", NEVER, COUNT), ("count", 0, 1, 0), {})
        self.check_parted(("chosen", NEVER, COUNT), ("chosen", NEVER, ("count", 5, 5, None)), None)
        self.check_parted(("matched", (), 1, COUNT, COUNT), ("matched", (), 2, COUNT, COUNT), None)
        self.check_parted(("matched", (), 1, COUNT, COUNT), ("count", 0, 0, 0), {})
        for thing, told in (({}, True), ({"a": []}, False), (None, False), ([], False), ((), False)):
            self.assertIs(shows_parted(COUNT, ("count", 1, 1, 1), thing), told)
            self.assertIs(shows_parted(COUNT, COUNT, thing), False)

    def test_one_name(self):
        self.check_parted(A, A, None)
        self.check_parted(A, ("turned", (), A), None)
        self.check_parted(A, ("again", 3, "a"), None)
        self.check_parted(A, ("turned", ON, A), {"a": [0]})
        self.check_parted(A, ("chosen", ODD, A), {"a": [0]})
        self.check_parted(A, ("first", 2, A), {"a": [0, 0, 0]})
        self.check_parted(A, ("first", 3, A), None)
        self.check_parted(("skip", 1, A), ("sums", ("skip", 1, A)), {"a": [0, 1, 0]})
        self.check_parted(A, ("turned", (("rest", 2),), A), {"a": [2]})
        self.check_parted(A, ("turned", (("rest", 3),), A), None)
        self.check_parted(A, COUNT, {"a": []})

    def test_two_names(self):
        self.check_parted(A, B, {"a": [], "b": [0]})
        self.check_parted(("behind", A, B), ("behind", B, A), {"a": [0], "b": [1]})
        self.check_parted(("merged", A, B), ("merged", B, A), {"a": [1], "b": [1, 0]})
        # Fewest numbers together come first, also where those of the first name are more.
        self.check_parted(("behind", A, ("skip", 1, B)), ("skip", 60, ("behind", A, B)), {"a": [0], "b": []})
        self.check_parted(("behind", ("skip", 1, A), ("skip", 2, B)), ("skip", 60, ("behind", A, B)),
            {"a": [0, 0], "b": []})
        self.check_parted(("beside", ("from", "z"), A), ("beside", ("from", "z"), ("turned", ON, A)),
            {"a": [0], "z": [0]})
        self.check_parted(("behind", A, ("behind", B, A)), ("behind", ("behind", A, B), A), None)

    def test_plans_that_differ_only_in_how_often_a_source_is_asked(self):
        self.check_parted(("first", 2, A), ("while", (((), "below", 9, True),), ("first", 2, A)), None)
        self.check_parted(("count", 0, 0, 0), ("skip", 60, A), {"a": [0]})
        self.check_parted(("beside", A, ("count", 0, 0, 1)), ("beside", ("first", 1, A), ("count", 0, 0, 1)),
            {"a": [0, 0]})
        self.check_parted(("first", 1, ("behind", A, A)), ("first", 1, A), None)
        # Of both leaves of a name together as many things are asked.
        self.check_parted(("behind", ("skip", 60, A), ("first", 0, A)), ("behind", ("first", 0, A), ("skip", 60, A)),
            None)

    def test_the_first_twelve_things(self):
        eleven, twelve = ("behind", ("count", 5, 0, 11), A), ("behind", ("count", 5, 0, 12), A)
        self.check_parted(eleven, ("behind", ("count", 5, 0, 11), ("turned", ON, A)), {"a": [0]})
        self.check_parted(twelve, ("behind", ("count", 5, 0, 12), ("turned", ON, A)), None)
        # Of an end behind the eleventh thing the word is told, behind the twelfth it isn't looked at.
        self.check_parted(("behind", ("count", 5, 0, 12), ("chosen", NEVER, COUNT)), ("count", 5, 0, 12), None)
        self.check_parted(("behind", ("count", 5, 0, 11), ("chosen", NEVER, COUNT)), ("count", 5, 0, 11), {})

    def test_faults_of_matched(self):
        one, other = ("matched", (), 2, COUNT, A), ("matched", (), 3, ("first", 3, COUNT), A)
        self.check_parted(("first", 0, one), ("first", 0, other), None)
        self.check_parted(("matched", (), 2, B, A), ("matched", (), 3, B, A), {"a": [0, 0, 0], "b": []})

    def test_dicts_and_lists_are_new(self):
        told = parted_by(A, ("turned", ON, A))
        told["a"].append(5)
        told["b"] = []
        self.check_told(parted_by(A, ("turned", ON, A)), {"a": [0]})


class Shown(Case):
    def check_shown(self, one, other, thing, told):
        before = shown(thing)
        self.assertIs(shows_parted(one, other, thing), told, thing)
        self.assertIs(shows_parted(thing=thing, other=other, one=one), told)
        self.assertEqual(shown(thing), before)

    def test_the_least_and_others(self):
        one, other = ("behind", A, B), ("behind", B, A)
        for thing in ({"a": [0], "b": [1]}, {"b": [1], "a": [0]}, {"a": [2, 2, 2], "b": [1, 2, 0]},
                {"a": (0,), "b": [1]}):
            self.check_shown(one, other, thing, True)
        for thing in ({"a": [], "b": [1, 2, 0]}, {"a": [1], "b": [1]}, {"a": [0], "b": []}):
            self.check_shown(one, other, thing, False)

    def test_what_is_no_such_dict(self):
        one, other = A, ("turned", ON, A)
        self.check_shown(one, other, {"a": [0]}, True)
        self.check_shown(one, other, {"a": [2, 1, 0]}, True)
        for thing in [*odd_things(), {"a": [0], "b": []}, {"b": [0]}, {"a": [0, 0, 0, 0]}, {"a": [3]}, {"a": [-1]},
                      {"a": [True]}, {"a": [False]}, {"a": [None]}, {"a": 0}, {"a": "0"}, {"a": {0: 0}}, {"a": [[0]]},
                      {"a": [0.0]}, [("a", [0])], {("a",): [0]}, {None: [0]}, {1: [0], "a": [0]}]:
            self.check_shown(one, other, thing, False)
        for thing in ({"a": [0]}, {"b": [0]}, {"a": [0], "b": [1], "c": []}, {"a": [0], "c": [1]}):
            self.check_shown(("behind", A, B), ("behind", B, A), thing, False)


class Refused(Case):
    def test_what_is_no_plan(self):
        for thing in odd_things():
            if is_plan(thing):
                continue
            for other in (A, None, ("merged", A, ("merged", B, C))):
                self.check_refused(NoPlan, {"found": thing}, parted_by, thing, other)
                self.check_refused(NoPlan, {"found": thing}, shows_parted, thing, other, {"a": [0]})
            for one in (A, ("merged", A, ("merged", B, C))):
                self.check_refused(NoPlan, {"found": thing}, parted_by, one, thing)
                self.check_refused(NoPlan, {"found": thing}, parted_by, other=thing, one=one)
                self.check_refused(NoPlan, {"found": thing}, shows_parted, one, thing, None)

    def test_more_than_two_names(self):
        three = ("merged", A, ("merged", B, C))
        for one, other, many in ((three, A, 3), (A, three, 3), (three, three, 3), (("merged", A, B), C, 3),
                                 (("merged", A, B), ("merged", C, ("from", "d")), 4)):
            self.check_refused(TooMuch, {"many": many}, parted_by, one, other)
            for thing in (None, {}, {"a": [0]}):
                self.check_refused(TooMuch, {"many": many}, shows_parted, one, other, thing)
        self.check_told(parted_by(("merged", A, B), ("merged", B, A)) is None, False)


if __name__ == "__main__":
    unittest.main()
