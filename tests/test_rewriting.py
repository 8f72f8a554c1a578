"""Points 121 to 124: plans made otherwise, their costs, the cheapest plan, and papers for it."""

import itertools
import random
import unittest

from greatrows.errors import NoNumber, NoPlan, NoSpot, NotThere, NoWord, TooMuch
from greatrows.hands import Hands
from greatrows.lots import Lots
from greatrows.plans import is_plan, nodes_in, part_at, put_at, spots_of
from greatrows.plantext import plan_text
from greatrows.rewriting import RULES, cheapest, cheapest_paper, cost_of, rewritten, rules_at, shows_cheapest
from greatrows.rows import row_of
from greatrows.things import is_whole
from helpers import Case, answer, copied, odd_things, shown
from made_plans import EDGES, PLANS, THIRTY
from made_runs import ON
from model import DEEDS, TESTS, runs

A, B, C = ("from", "a"), ("from", "b"), ("from", "c")
COUNT = ("count", 3, 4, None)
TWICE = (("times", 2),)
REST5 = (("rest", 5),)
BELOW = (((), "below", 9, True),)
EVEN = (((), "parts", 2, True),)
EIGHT = ON * 8
HEADS = (
    *[("turned", deeds) for deeds in (*DEEDS, TWICE, EIGHT)], *[("chosen", tests) for tests in TESTS],
    *[("while", tests) for tests in TESTS], ("first", 0), ("first", 2), ("first", 60), ("skip", 0), ("skip", 2),
    ("skip", 60), ("sums",), ("flat",), ("windows", 2),
)


def grown(chance, plan, many):
    """The plan, with so many more parts of forms that the rules have, as far as there may be."""
    for _ in range(many):
        spot = chance.choice(spots_of(plan))
        part = part_at(plan, spot)
        if nodes_in(plan) > 8:
            continue
        kind = chance.random()
        if kind < 0.7:
            part = (*chance.choice(HEADS), part)
        elif kind < 0.85:
            part = ("chosen", chance.choice(TESTS), ("turned", chance.choice(DEEDS), part))
        else:
            word = chance.choice(("behind", "else"))
            part = (word, (word, part, chance.choice((A, B, ("count", 1, 1, 3)))), chance.choice((A, C)))
        plan = put_at(plan, spot, part)
    return plan


def steps(plan):
    return [((rule, spot), rewritten(plan, rule, spot)) for spot in spots_of(plan) for rule in rules_at(plan, spot)]


class Rules(Case):
    def check_rule(self, rule, plan, made, rules=None):
        """The rule makes this of the plan, at each spot where it may stand; None where it doesn't fit."""
        for around, spot in ((None, ()), (("sums",), (0,)), (("merged", C), (1,)), (("flat", ("beside",), C), None)):
            whole = plan if around is None else (*around, plan)
            if spot is None:
                whole, spot = ("flat", ("beside", plan, C)), (0, 0)
            if made is None:
                self.assertNotIn(rule, rules_at(whole, spot))
                self.check_refused(NotThere, {"found": rule}, rewritten, whole, rule, spot)
                continue
            self.assertIn(rule, rules_at(whole, spot))
            told = put_at(whole, spot, made)
            self.check_told(rewritten(whole, rule, spot), told)
            self.check_told(rewritten(spot=spot, rule=rule, plan=whole), told)
            self.assertTrue(is_plan(told))
        if rules is not None:
            self.check_told(rules_at(plan, ()), rules)
            self.check_told(rules_at(spot=(), plan=plan), rules)

    def test_the_words_in_their_order(self):
        self.check_told(RULES, ("none", "fuse", "choose", "cut", "pass", "count", "right"))

    def test_none(self):
        self.check_rule("none", ("turned", (), A), A, ["none"])
        self.check_rule("none", ("skip", 0, ("merged", A, B)), ("merged", A, B), ["none"])
        for plan in (("turned", ON, A), ("skip", 1, A), ("first", 0, A), ("windows", 1, A), ("groups", (), A), A,
                ("sums", A)):
            self.check_rule("none", plan, None)

    def test_fuse_of_turned(self):
        self.check_rule("fuse", ("turned", ON, ("turned", TWICE, A)), ("turned", (*TWICE, *ON), A), ["fuse"])
        self.check_rule("fuse", ("turned", (), ("turned", TWICE, A)), ("turned", TWICE, A), ["none", "fuse"])
        self.check_rule("fuse", ("turned", TWICE, ("turned", (), A)), ("turned", TWICE, A), ["fuse"])
        self.check_rule("fuse", ("turned", ON * 4, ("turned", TWICE * 4, A)), ("turned", TWICE * 4 + ON * 4, A))
        self.check_rule("fuse", ("turned", ON * 5, ("turned", TWICE * 4, A)), None, [])
        self.check_rule("fuse", ("turned", ON, EIGHT and ("turned", EIGHT, A)), None, [])

    def test_fuse_of_tests(self):
        for word in ("chosen", "while"):
            self.check_rule("fuse", (word, BELOW, (word, EVEN, A)), (word, (*EVEN, *BELOW), A), ["fuse"])
            self.check_rule("fuse", (word, BELOW * 4, (word, EVEN * 4, A)), (word, EVEN * 4 + BELOW * 4, A))
            self.check_rule("fuse", (word, BELOW * 4, (word, EVEN * 5, A)), None, [])
            self.check_rule("fuse", (word, BELOW * 8, (word, EVEN, A)), None, [])
        self.check_rule("fuse", ("until", BELOW, ("until", EVEN, A)), None, [])
        self.check_rule("fuse", ("chosen", BELOW, ("while", EVEN, A)), None, [])
        self.check_rule("fuse", ("while", BELOW, ("chosen", EVEN, A)), None, [])

    def test_fuse_of_first_and_skip(self):
        for one, other in ((2, 5), (5, 2), (0, 60), (60, 0), (3, 3)):
            self.check_rule("fuse", ("first", one, ("first", other, A)), ("first", min(one, other), A), ["fuse"])
        for one, other in ((2, 5), (30, 30), (0, 60), (60, 0)):
            self.check_rule("fuse", ("skip", one, ("skip", other, A)), ("skip", one + other, A))
        for one, other in ((30, 31), (60, 1), (60, 60)):
            self.check_rule("fuse", ("skip", one, ("skip", other, A)), None, [])
        for plan in (("first", 2, ("skip", 2, A)), ("skip", 2, ("first", 2, A)), ("windows", 1, ("windows", 1, A)),
                     ("sums", ("sums", A)), ("flat", ("flat", A)), ("groups", ON, ("groups", ON, A))):
            self.check_rule("fuse", plan, None, [])

    def test_choose(self):
        self.check_rule("choose", ("chosen", BELOW, ("turned", ON, A)), ("turned", ON, ("chosen", (
            (ON, "below", 9, True),), A)), ["choose"])
        tests = ((TWICE, "below", 9, False), (REST5, "is", 2, True))
        self.check_rule("choose", ("chosen", tests, ("turned", ON, A)), ("turned", ON, ("chosen", (
            ((*ON, *TWICE), "below", 9, False), ((*ON, *REST5), "is", 2, True)), A)), ["choose"])
        self.check_rule("choose", ("chosen", BELOW, ("turned", (), A)), None, [])
        seven = ((ON * 7, "below", 9, True),)
        self.check_rule("choose", ("chosen", seven, ("turned", TWICE, A)), ("turned", TWICE, ("chosen", (
            ((*TWICE, *ON * 7), "below", 9, True),), A)), ["choose"])
        self.check_rule("choose", ("chosen", seven, ("turned", TWICE * 2, A)), None, [])
        self.check_rule("choose", ("chosen", (*BELOW, *seven), ("turned", TWICE * 2, A)), None, [])
        for plan in (("while", BELOW, ("turned", ON, A)), ("turned", ON, ("chosen", BELOW, A)),
                ("chosen", BELOW, ("sums", A))):
            self.check_rule("choose", plan, None, [])

    def test_cut_and_pass(self):
        self.check_rule("cut", ("first", 3, ("turned", ON, A)), ("turned", ON, ("first", 3, A)), ["cut"])
        self.check_rule("cut", ("first", 0, ("turned", (), A)), ("turned", (), ("first", 0, A)), ["cut"])
        self.check_rule("cut", ("first", 60, ("sums", A)), ("sums", ("first", 60, A)), ["cut"])
        self.check_rule("pass", ("skip", 3, ("turned", ON, A)), ("turned", ON, ("skip", 3, A)), ["pass"])
        self.check_rule("pass", ("skip", 0, ("turned", (), A)), ("turned", (), ("skip", 0, A)), ["none", "pass"])
        for plan in (("skip", 3, ("sums", A)), ("first", 3, ("flat", A)), ("turned", ON, ("first", 3, A)),
                     ("turned", ON, ("skip", 3, A)), ("first", 3, ("windows", 2, A)), ("sums", ("first", 3, A))):
            self.check_rule("cut", plan, None, [])
            self.check_rule("pass", plan, None, [])
        self.check_rule("pass", ("first", 3, ("turned", ON, A)), None)
        self.check_rule("cut", ("skip", 3, ("turned", ON, A)), None)

    def test_count_turned(self):
        for many in (None, 0, 60):
            count = ("count", 3, -4, many)
            self.check_rule("count", ("turned", (("add", -7),), count), ("count", -4, -4, many), ["count"])
            self.check_rule("count", ("turned", (("times", -2),), count), ("count", -6, 8, many), ["count"])
            self.check_rule("count", ("turned", (("times", 0),), count), ("count", 0, 0, many), ["count"])
            self.check_rule("count", ("turned", REST5, count), None, [])
            self.check_rule("count", ("turned", (*ON, *TWICE), count), None, [])
            self.check_rule("count", ("turned", (), count), None, ["none"])
        self.check_rule("count", ("turned", (("times", THIRTY),), ("count", THIRTY, THIRTY, 2)),
                        ("count", THIRTY ** 2, THIRTY ** 2, 2), ["count"])

    def test_count_first_and_skip(self):
        for by, many, told in ((5, None, 5), (60, None, 60), (0, None, 0), (5, 3, 3), (3, 5, 3), (0, 5, 0), (5, 5, 5)):
            self.check_rule("count", ("first", by, ("count", 3, 4, many)), ("count", 3, 4, told), ["count"])
        for by, many, told in ((5, None, None), (3, 5, 2), (5, 5, 0), (9, 5, 0), (60, 60, 0), (60, 0, 0)):
            self.check_rule("count", ("skip", by, ("count", 3, -4, many)), ("count", 3 - 4 * by, -4, told), ["count"])
        self.check_rule("count", ("skip", 0, COUNT), COUNT, ["none", "count"])
        for plan in (("sums", COUNT), ("flat", COUNT), ("windows", 1, COUNT), ("chosen", BELOW, COUNT),
                     ("first", 3, A), ("skip", 3, ("again", 1, "count")), ("turned", ON, ("from", "count"))):
            self.check_rule("count", plan, None, [])

    def test_right(self):
        for word in ("behind", "else"):
            self.check_rule("right", (word, (word, A, B), C), (word, A, (word, B, C)), ["right"])
            self.check_rule("right", (word, A, (word, B, C)), None, [])
        for word in ("merged", "beside"):
            self.check_rule("right", (word, (word, A, B), C), None, [])
        self.check_rule("right", ("else", ("behind", A, B), C), None, [])
        self.check_rule("right", ("behind", ("else", A, B), C), None, [])

    def test_leaves_have_none(self):
        for plan in (A, ("again", 3, "a"), COUNT, ("count", 0, 0, 0), ("from", "turned"), ("again", 1, "skip")):
            self.check_told(rules_at(plan, ()), [])

    def test_a_list_is_new(self):
        rules_at(("turned", (), A), ()).clear()
        self.check_told(rules_at(("turned", (), A), ()), ["none"])


class Alike(Case):
    def told_by(self, run, ask, many):
        """What comes of so many asks, waits left out; None where it waits too often."""
        told = []
        waits = 0
        while len(told) < many and not run.is_over():
            came = answer(ask)
            waits += came[0] == "waits"
            if waits > 4:
                return None
            told.extend([came] if came[0] != "waits" else [])
        return told

    def test_made_otherwise_they_tell_alike_and_ask_no_source_oftener(self):
        came = {}
        for chance, plan, shelf in runs(700, seed=121, most=7):
            plan = grown(chance, plan, chance.randint(1, 4))
            one = shelf.copied()
            row = row_of(plan, one)
            expected = self.told_by(row, row.ask, 12)
            for (rule, _), made in steps(plan):
                came[rule] = came.get(rule, 0) + 1
                if expected is not None:
                    self.check_made(chance, made, shelf, expected, one)
        self.assertEqual(sorted(came), sorted(RULES))
        self.assertGreater(min(came.values()), 8)

    def check_made(self, chance, made, shelf, expected, one):
        two = shelf.copied()
        row = row_of(made, two)
        self.check_told(self.told_by(row, row.ask, 12), expected)
        for name in shelf.names():
            self.assertLessEqual(two.told_of(name), one.told_of(name))
        things = [each[1] for each in expected if each[0] == "thing"]
        lots = Lots(made, shelf.copied())
        told = []
        while len(told) < len(things):
            came = answer(lots.lot, min(chance.randint(1, 5), len(things) - len(told)))
            told.extend(came[1] if came[0] == "thing" else [])
        self.check_told(told, things)
        hands = Hands(made, shelf.copied(), room=chance.randint(1, 4))
        hands.run(spots_of(made), len(things))
        if len(hands.told()) == len(things):
            self.check_told(hands.told(), things)
        else:
            self.assertIs(hands.ending(), None)


class Costs(Case):
    def test_of_each_word(self):
        for plan, cost in (
                (A, 1), (("again", 5, "a"), 1), (COUNT, 1), (("turned", (), A), 2), (("turned", EIGHT, A), 10),
                (("chosen", BELOW, A), 3), (("while", EVEN * 8, A), 10),
                (("until", ((EIGHT, "is", 1, True),) * 8, A), 74),
                (("first", 60, A), 2), (("skip", 60, A), 2), (("windows", 8, A), 2), (("groups", REST5, A), 3),
                (("sums", A), 2), (("flat", A), 2), (("behind", A, B), 3), (("beside", A, B), 3), (("merged", A, B), 3),
                (("matched", (), 8, A, B), 3), (("matched", ON * 3, 8, A, B), 6), (("else", A, ("turned", ON, B)), 5)):
            self.check_told(cost_of(plan), cost)
            self.check_told(cost_of(plan=plan), cost)
            self.check_told(cost_of(("sums", plan)), cost + 1)

    def test_against_the_words_of_its_text(self):
        for plan in [*PLANS, *EDGES]:
            cost = 0
            for row in plan_text(plan).split("\n"):
                words = row.split()
                deeds = sum(word in ("add", "times", "rest") for word in words[1 if words[0] in ("from",
                    "again") else 0:])
                tests = sum(word in ("yes", "no") for word in words)
                cost += 1 + (0 if words[0] in ("from", "again") else deeds + tests)
            self.check_told(cost_of(plan), cost)


def one_by_one(plan):
    """All that is reached, each with the first of its shortest ways: all ways of each length, in order, are gone."""
    found = {plan_text(plan): (plan, [])}
    level = [(plan, [])]
    while level:
        further = []
        for ahead, way in level:
            for step, made in steps(ahead):
                further.append((made, [*way, step]))
        further = sorted(further, key=lambda pair: [(spot, RULES.index(rule)) for rule, spot in pair[1]])
        level = []
        for made, way in further:
            if plan_text(made) not in found:
                found[plan_text(made)] = (made, way)
                level.append((made, way))
    return list(found.values())


def made_plans(many, seed):
    chance = random.Random(seed)
    for _, plan, _ in runs(many, seed, most=5):
        yield chance, grown(chance, plan, chance.randint(1, 5))


class Cheapest(Case):
    def check_cheapest(self, plan, told):
        self.check_told(cheapest(plan), told)
        best, way, plans = cheapest_paper(plan)
        self.check_told([best, way], [told[0], told[2]])
        self.assertIs(shows_cheapest(plan, (best, way, plans)), True)

    def test_against_an_account_that_goes_through_all_that_is_reached(self):
        for _, plan in made_plans(250, 123):
            reached = one_by_one(plan)
            if len(reached) > 300:
                self.check_refused(TooMuch, {"many": 301}, cheapest, plan)
                continue
            least = min(cost_of(other) for other, _ in reached)
            best, way = min([(other, way) for other, way in reached if cost_of(other) == least], key=lambda pair: (
                len(pair[1]), [(spot, RULES.index(rule)) for rule, spot in pair[1]]))
            self.check_cheapest(plan, (best, least, way))
            self.check_told(sorted(map(plan_text, cheapest_paper(plan)[2])),
                sorted(plan_text(other) for other, _ in reached))
            for step in way:
                plan = rewritten(plan, *step)
            self.check_told(plan, best)

    def test_a_plan_that_is_the_cheapest_itself(self):
        for plan in (A, ("sums", A), ("merged", ("first", 2, A), ("again", 2, "b"))):
            self.check_cheapest(plan, (plan, cost_of(plan), []))
            self.check_told(cheapest_paper(plan), (plan, [], [plan]))

    def test_ways(self):
        plan = ("first", 3, ("turned", ON, ("turned", TWICE, COUNT)))
        self.check_cheapest(plan, (("count", 7, 8, 3), 1, [("count", (0, 0)), ("count", (0,)), ("count", ())]))
        plan = ("skip", 0, ("turned", (), ("skip", 0, A)))
        self.check_cheapest(plan, (A, 1, [("none", ()), ("none", ()), ("none", ())]))

    def test_several_least_plans_and_ways(self):
        # Both orders of the steps lead there; the lesser spot's is told.
        plan = ("merged", ("skip", 0, A), ("skip", 0, B))
        self.check_cheapest(plan, (("merged", A, B), 3, [("none", (0,)), ("none", (1,))]))
        # By either rule it comes to the same.
        self.check_cheapest(("turned", (), ("turned", ON, A)), (("turned", ON, A), 3, [("none", ())]))
        self.check_cheapest(("skip", 0, COUNT), (COUNT, 1, [("none", ())]))
        # As cheap, but no step is needed.
        plan = ("behind", ("behind", A, B), C)
        self.check_cheapest(plan, (plan, 5, []))
        plan = ("first", 3, ("turned", ON, A))
        self.check_cheapest(plan, (plan, 4, []))
        # Of two least plans with as many steps that by the first spot: once two of three are one, no more fit.
        plan = ("turned", ON * 3, ("turned", ON * 5, ("turned", ON * 3, A)))
        self.check_cheapest(plan, (("turned", ON * 8, ("turned", ON * 3, A)), 14, [("fuse", ())]))

    def test_most_plans_and_one(self):
        plan = ("merged", ("skip", 0, A), ("merged", ("skip", 0, B), ("skip", 0, C)))
        reached = len(cheapest_paper(plan)[2])
        self.assertEqual(reached, 8)
        for call in (cheapest, cheapest_paper):
            self.check_told(call(plan, most=8), call(plan))
            self.check_told(call(most=2000, plan=plan), call(plan))
            for most in (1, 2, 7):
                self.check_refused(TooMuch, {"many": most + 1}, call, plan, most=most)
            self.check_told(call(A, most=1), call(A))

    def test_300_where_none_is_told(self):
        # Of the whole as many plans are reached as the product of those that are reached of both parts.
        skips = ("skip", 0, ("skip", 0, ("skip", 0, ("turned", ON, A))))
        more = ("skip", 0, ("skip", 0, ("skip", 0, ("turned", ON, ("turned", ON, B)))))
        for one, reached in ((skips, 300), (("skip", 0, ("skip", 0, ("turned", ON, ("turned", ON, A)))), 480)):
            plan = ("merged", one, more)
            paper = cheapest_paper(plan, most=reached)
            self.assertEqual(len(paper[2]), reached)
            self.check_refused(TooMuch, {"many": reached}, cheapest_paper, plan, most=reached - 1)
            for call in (cheapest, cheapest_paper):
                if reached > 300:
                    self.check_refused(TooMuch, {"many": 301}, call, plan)
                else:
                    self.check_told(call(plan), call(plan, most=300))

    def test_lists_are_new(self):
        plan = ("skip", 0, A)
        cheapest(plan)[2].clear()
        paper = cheapest_paper(plan)
        paper[1].clear()
        paper[2].clear()
        self.check_told(cheapest_paper(plan), (A, [("none", ())], [plan, A]))


class Papers(Case):
    def setUp(self):
        self.plan = ("merged", ("skip", 0, A), ("turned", (), B))
        self.half, self.other = ("merged", A, ("turned", (), B)), ("merged", ("skip", 0, A), B)
        self.best = ("merged", A, B)
        self.way = [("none", (0,)), ("none", (1,))]
        self.plans = [self.plan, self.half, self.other, self.best]

    def check_paper(self, thing, told):
        before = shown(thing)
        self.assertIs(shows_cheapest(self.plan, thing), told, thing)
        self.assertIs(shows_cheapest(thing=thing, plan=self.plan), told)
        self.assertEqual(shown(thing), before)

    def test_papers_in_any_order_and_with_more_plans(self):
        for plans in itertools.permutations(self.plans):
            self.check_paper((self.best, self.way, list(plans)), True)
        self.check_paper((self.best, tuple(self.way), tuple(self.plans)), True)
        self.check_paper((self.best, [("none", (1,)), ("none", (0,))], self.plans), True)
        self.check_paper((self.best, self.way, [*self.plans, ("sums", ("merged", A, B))]), True)
        # Another one as cheap may stand among them; one that is cheaper, or out of which a step leads, may not.
        self.check_paper((self.best, self.way, [*self.plans, ("merged", B, A)]), True)
        self.check_paper((self.best, self.way, [*self.plans, A]), False)
        self.check_paper((self.best, self.way, [*self.plans, ("flat", ("flat", ("skip", 0, A)))]), False)

    def test_a_longer_way_leads_there_too(self):
        plan = ("turned", (), ("turned", (), A))
        for way in ([("none", ()), ("none", ())], [("none", (0,)), ("none", ())], [("fuse", ()), ("none", ())]):
            self.assertIs(shows_cheapest(plan, (A, way, [plan, ("turned", (), A), A])), True)

    def test_what_lacks_or_is_wrong(self):
        for at in range(4):
            self.check_paper((self.best, self.way, self.plans[:at] + self.plans[at + 1:]), False)
            self.check_paper((self.best, self.way, [*self.plans, self.plans[at]]), False)
        for other in self.plans[:3]:
            self.check_paper((other, self.way, self.plans), False)
            self.check_paper((other, [], self.plans), False)
        self.check_paper((("merged", B, A), self.way, [*self.plans, ("merged", B, A)]), False)
        for way in ([], self.way[:1], [*self.way, ("none", (0,))], [("none", ()), ("none", (1,))],
                [("fuse", (0,)), ("none", (1,))],
                    [["none", (0,)], ["none", (1,)]], [("none", [0]), ("none", [1])],
                    [("none", (False,)), ("none", (True,))],
                    [("none", (0,), 1), ("none", (1,))], [((0,), "none"), ((1,), "none")], [None, None], None, {},
                    "way",
                    [("none", (0, 0)), ("none", (1,))], [(None, (0,)), ("none", (1,))],
                    [(["none"], (0,)), ("none", (1,))]):
            self.check_paper((self.best, way, self.plans), False)
        for thing in odd_things():
            self.check_paper(thing, False)
            self.check_paper((thing, self.way, self.plans), False)
            self.check_paper((self.best, thing, self.plans), False)
            self.check_paper((self.best, self.way, thing), False)
            self.check_paper((self.best, self.way, [*self.plans[:3], thing]), False)
        self.check_paper([self.best, self.way, self.plans], False)
        self.check_paper((self.best, self.way), False)
        self.check_paper((self.best, self.way, self.plans, None), False)

    def test_truths_in_the_place_of_numbers(self):
        plan = ("skip", 0, ("first", 1, A))
        best = ("first", 1, A)
        self.assertIs(shows_cheapest(plan, (best, [("none", ())], [plan, best])), True)
        wrong = ("first", True, A)
        self.assertIs(shows_cheapest(plan, (wrong, [("none", ())], [plan, best])), False)
        self.assertIs(shows_cheapest(plan, (best, [("none", ())], [plan, wrong])), False)

    def test_told_papers_with_a_part_changed(self):
        for chance, plan in made_plans(80, 124):
            try:
                paper = cheapest_paper(plan)
            except TooMuch:
                continue
            self.assertIs(shows_cheapest(plan, paper), True)
            best, way, plans = copied(paper)
            if len(plans) > 1:
                at = chance.randrange(len(plans))
                self.assertIs(shows_cheapest(plan, (best, way, plans[:at] + plans[at + 1:])), False)
            if way:
                self.assertIs(shows_cheapest(plan, (best, way[:-1], plans)), False)
            chance.shuffle(plans)
            self.assertIs(shows_cheapest(plan, (best, way, plans)), True)


class Refused(Case):
    def test_what_is_no_plan(self):
        for thing in odd_things():
            if not is_plan(thing):
                for spot in ((), None):
                    self.check_refused(NoPlan, {"found": thing}, rules_at, thing, spot)
                    for rule in ("none", 0):
                        self.check_refused(NoPlan, {"found": thing}, rewritten, thing, rule, spot)
                self.check_refused(NoPlan, {"found": thing}, cost_of, thing)
                for most in (300, 0, True):
                    for call in (cheapest, cheapest_paper):
                        self.check_refused(NoPlan, {"found": thing}, call, thing, most=most)
                self.check_refused(NoPlan, {"found": thing}, shows_cheapest, thing, (A, [], [A]))
                self.check_refused(NoPlan, {"found": thing}, shows_cheapest, thing, None)

    def test_what_is_no_rule_no_spot_and_no_number(self):
        plan = ("merged", ("skip", 0, A), B)
        for thing in [*odd_things(), "None", "none ", "merged", ("none",), 6]:
            if not isinstance(thing, str) or thing not in RULES:
                for spot in ((0,), (), None, (9,)):
                    self.check_refused(NoWord, {"found": thing}, rewritten, plan, thing, spot)
            if shown(thing) not in (shown(()), shown((1,))):
                self.check_refused(NoSpot, {"found": thing}, rules_at, plan, thing)
                for rule in ("none", "right"):
                    self.check_refused(NoSpot, {"found": thing}, rewritten, plan, rule, thing)
                    self.check_refused(NoSpot, {"found": thing}, rewritten, spot=thing, rule=rule, plan=plan)
            if not is_whole(thing, 1, 2000):
                for call in (cheapest, cheapest_paper):
                    self.check_refused(NoNumber, {"found": thing}, call, plan, most=thing)
        for most in (0, 2001, -1, True):
            for call in (cheapest, cheapest_paper):
                self.check_refused(NoNumber, {"found": most}, call, most=most, plan=plan)
        for spot in ((2,), (False,), (0, 1), (0, 0, 0), [0]):
            self.check_refused(NoSpot, {"found": spot}, rules_at, spot=spot, plan=plan)
        for rule in RULES:
            self.check_refused(NotThere, {"found": rule}, rewritten, plan, rule, (1,))
        self.check_told(rewritten(plan, "none", (0,)), ("merged", A, B))


if __name__ == "__main__":
    unittest.main()
