"""Points 111 to 115: what is told ahead."""

import math
import unittest

from greatrows.ahead import round_of, shows_round, told_ahead, what_matters
from greatrows.errors import NoNumber, NoPlan, NoShelf, NoSpot, NotThere
from greatrows.plans import is_plan, names_in, part_at, spots_of
from greatrows.shelves import Shelf
from greatrows.sources import Source
from greatrows.things import is_whole
from helpers import Case, odd_things, shelf_of, shown
from made_plans import EDGES, PLANS, THIRTY
from made_runs import NEVER, ON, long_runs
from model import runs
from model_walk import ModelWalk, Watched, matters

A, B = ("from", "a"), ("from", "b")
COUNT = ("count", 0, 1, None)
REST7 = (("rest", 7),)
ALL = (((), "is", 0, False),)
BY3 = (((), "parts", 3, True),)


class Whole(Case):
    def check_ahead(self, plan, shelf, most):
        """What is told ahead is what a row on a copy of the shelf does; tells the word."""
        log = shown(shelf.log())
        told, found = told_ahead(plan, shelf, most=most), round_of(plan, shelf, most=most)
        self.assertEqual(shown(shelf.log()), log)
        self.check_told(found, ModelWalk(plan, shelf, most).round())
        row = Watched(plan, shelf.copied())
        if found is None:
            how = row.watch(most)
            if how == "stop":
                self.check_told(told, ("open", row.told_many(), row.room))
            else:
                self.check_told(told, (how, row.told_many(), sorted(row.asked().items()), row.room))
            return told[0]
        one, other = found
        self.assertLessEqual(other, most)
        self.assertEqual(row.watch(other + 4 * (other - one)), "stop")
        first, more = row.told[one], row.told[other] - row.told[one]
        self.check_told(told, ("endless", first, more, row.room) if more else ("waits", first, row.room))
        for at in range(one, len(row.told) - (other - one)):
            self.assertEqual(row.told[at + other - one], row.told[at] + more)
        return told[0]

    def test_plans_of_all_kinds_against_rows(self):
        words = {}
        for chance, plan, shelf in runs(1200, seed=111):
            word = self.check_ahead(plan, shelf, chance.choice((1, 2, 5, 20, 100, 400)))
            words[word] = words.get(word, 0) + 1
        self.assertEqual(sorted(words), ["endless", "ends", "faults", "open", "waits"])
        self.assertGreater(min(words.values()), 4)

    def test_long_runs_against_rows(self):
        for chance, plan, shelf in long_runs(60, seed=114):
            self.check_ahead(plan, shelf, chance.choice((100, 400)))

    def test_numbers_of_many_figures(self):
        shelf = shelf_of(a=Source([7], then=(("times", 10 ** 29), ("add", 1))))
        for plan in (("merged", A, COUNT), ("sums", ("merged", A, A)), ("windows", 2, ("sums", ("merged", A, COUNT)))):
            self.assertEqual(told_ahead(plan, shelf, most=500)[0], "open")
        self.check_ahead(("merged", A, COUNT), shelf, 100)

    def test_every_word(self):
        for plan in [*PLANS[::3], *EDGES]:
            shelf = shelf_of(**{name: Source([1, 2, 3], then=(("add", 2),), faults={9: 3}) for name in names_in(plan)})
            self.check_ahead(plan, shelf, 30)


class Told(Case):
    def check_ahead(self, plan, shelf, told, found=None, **most):
        self.check_told(told_ahead(plan, shelf, **most), told)
        self.check_told(round_of(plan, shelf, **most), found)

    def test_ends(self):
        shelf = shelf_of(a=Source([1, 2, 3]), b=Source([4], then=ON))
        self.check_ahead(A, shelf, ("ends", 3, [((), 3)], 0))
        self.check_ahead(("first", 2, ("beside", B, ("sums", A))), shelf, ("ends", 2, [((0, 0), 2), ((0, 1, 0), 2)], 1))
        self.check_ahead(("first", 0, B), shelf, ("ends", 0, [((0,), 0)], 0))
        # Windows of 2 hold one; that which is ready counts when the machine that tells it gave it, no more.
        self.check_ahead(("windows", 2, A), shelf, ("ends", 2, [((0,), 3)], 1))
        self.check_ahead(("flat", ("windows", 3, A)), shelf, ("ends", 3, [((0, 0), 3)], 4))

    def test_faults(self):
        shelf = shelf_of(a=Source([1, 2, 3], faults={2: 2}), b=Source([1, 2], then=ON))
        self.check_ahead(A, shelf, ("faults", 2, [((), 2)], 0))
        self.check_ahead(("again", 1, "a"), shelf, ("faults", 2, [((), 2)], 0))
        self.check_ahead(("again", 2, "a"), shelf, ("ends", 3, [((), 3)], 0))
        self.check_ahead(("else", A, ("count", 0, 0, 1)), shelf, ("ends", 3, [((0,), 2), ((1,), 1)], 0))
        self.check_ahead(("matched", (), 2, A, B), shelf, ("faults", 0, [((0,), 0), ((1,), 3)], 2))
        self.check_ahead(("behind", ("count", 0, 0, 2), ("matched", (), 1, A, B)), shelf,
                         ("faults", 2, [((0,), 2), ((1, 0), 0), ((1, 1), 2)], 1))

    def test_endless_waits_and_open(self):
        shelf = shelf_of(a=Source([1, 2], then=ON))
        self.check_ahead(COUNT, shelf, ("endless", 1, 1, 0), (1, 2))
        self.check_ahead(A, shelf, ("endless", 3, 1, 0), (3, 4))
        self.check_ahead(("chosen", BY3, COUNT), shelf, ("endless", 1, 1, 0), (1, 4))
        self.check_ahead(("chosen", ((REST7, "is", 7, True),), COUNT), shelf, ("waits", 0, 0), (1, 8))
        self.check_ahead(("behind", ("count", 4, 4, 3), ("chosen", ((REST7, "is", 7, True),), COUNT)), shelf,
                         ("waits", 3, 0), (5, 12))
        self.check_ahead(("chosen", NEVER, COUNT), shelf, ("open", 0, 0))
        self.check_ahead(("merged", COUNT, A), shelf, ("open", 399, 1))

    def test_most_is_400_where_none_is_told(self):
        for many, told in ((94, ("ends", 394)), (95, ("open", 395))):
            plan = ("while", (((), "below", many, True),), COUNT)
            # Five times 60 numbers and an end; then so many, and one that isn't told.
            for _ in range(5):
                plan = ("behind", ("count", 0, 1, 60), plan)
            self.check_told(told_ahead(plan, Shelf())[:2], told)
            self.assertIs(round_of(plan, Shelf()), None)
        plan = ("chosen", (((), "parts", 399, True),), COUNT)
        self.check_told(round_of(plan, Shelf()), (1, 400))
        self.assertIs(round_of(("chosen", (((), "parts", 400, True),), COUNT), Shelf()), None)

    def test_most_1_and_2000(self):
        self.check_ahead(("count", 0, 0, 0), Shelf(), ("ends", 0, [((), 0)], 0), most=1)
        self.check_ahead(("count", 0, 0, 1), Shelf(), ("open", 1, 0), most=1)
        self.check_ahead(("first", 1, COUNT), Shelf(), ("ends", 1, [((0,), 1)], 0), most=1)
        self.check_ahead(COUNT, Shelf(), ("open", 1, 0), most=1)
        # A fault at its first ask.
        self.check_ahead(A, shelf_of(a=Source([1], faults={0: None})), ("faults", 0, [((), 0)], 0), most=1)
        for many, told in ((1999, ("endless", 1, 1999, 0)), (2000, ("open", 2000, 0))):
            plan = ("turned", ON, ("chosen", ((((("rest", many),)), "below", many, True),), COUNT))
            self.check_ahead(plan, Shelf(), told, (1, 2000) if many == 1999 else None, most=2000)

    def test_an_end_just_at_most(self):
        shelf = shelf_of(a=Source([1, 2, 3]))
        self.check_ahead(A, shelf, ("ends", 3, [((), 3)], 0), most=4)
        self.check_ahead(A, shelf, ("open", 3, 0), most=3)
        self.check_ahead(("first", 3, A), shelf, ("ends", 3, [((0,), 3)], 0), most=3)
        self.check_ahead(("first", 3, A), shelf, ("open", 2, 0), most=2)

    def test_a_fault_just_at_most_and_tries_that_are_one(self):
        shelf = shelf_of(a=Source([1, 2, 3], faults={0: 5, 1: 5, 2: 6}))
        self.check_ahead(("again", 5, "a"), shelf, ("faults", 2, [((), 2)], 0), most=3)
        self.check_ahead(("again", 5, "a"), shelf, ("open", 2, 0), most=2)

    def test_a_stand_that_comes_again_just_at_most(self):
        plan = ("chosen", BY3, COUNT)
        self.check_ahead(plan, Shelf(), ("endless", 1, 1, 0), (1, 4), most=4)
        self.check_ahead(plan, Shelf(), ("open", 1, 0), most=3)

    def test_room_is_looked_at_ahead_of_an_ask_that_most_stops(self):
        plan = ("windows", 8, COUNT)
        for most, room in ((1, 1), (3, 3), (7, 7)):
            self.check_told(told_ahead(plan, Shelf(), most=most), ("open", 0, room))
        plan = ("groups", (("rest", 1),), COUNT)
        self.check_told(told_ahead(plan, Shelf(), most=5), ("open", 0, 5))

    def test_room_is_looked_at_behind_each_thing_told(self):
        # Of a thing of three, two are left when the first one is told; the window keeps two.
        self.check_told(told_ahead(("flat", ("windows", 3, ("count", 0, 1, 3))), Shelf(), most=3), ("open", 3, 4))
        self.check_told(told_ahead(("first", 1, ("flat", ("windows", 3, COUNT))), Shelf(), most=3),
                        ("ends", 1, [((0, 0, 0), 3)], 4))

    def test_what_closed_machines_held_counts(self):
        plan = ("behind", ("first", 1, ("windows", 5, COUNT)), ("windows", 3, ("count", 0, 1, 2)))
        self.check_told(told_ahead(plan, Shelf()), ("ends", 1, [((0, 0, 0), 5), ((1, 0), 2)], 6))

    def test_the_shelfs_readings_decide_nothing(self):
        shelf = shelf_of(a=Source([1, 2, 3], faults={1: 1}))
        reading = shelf.open_up("a")
        shelf.ask(reading)
        with self.assertRaises(LookupError):
            shelf.ask(reading)
        self.check_ahead(A, shelf, ("faults", 1, [((), 1)], 0))

    def test_lists_are_new(self):
        told_ahead(("count", 0, 0, 2), Shelf())[2].clear()
        self.check_told(told_ahead(("count", 0, 0, 2), Shelf()), ("ends", 2, [((), 2)], 0))


class Numbers(Case):
    def check_round(self, plan, source, found, most=400):
        self.check_told(round_of(plan, shelf_of(a=source), most=most), found)

    def test_without_rest_they_are_told_by_what_matters(self):
        twice = Source([1], then=(("times", 2), ("add", 1)))
        # 1, 3, 7, 15 and so on, by 5: 1, 3, 2, 0, 1.
        self.check_round(("chosen", (((), "parts", 5, True),), A), twice, (1, 5))
        self.check_round(("chosen", (((("rest", 5),), "below", 2, True),), A), twice, (1, 5))

    def test_told_things_stay_as_they_are(self):
        self.check_round(("chosen", BY3, A), Source([9, 9], then=ON), (3, 6))
        self.check_round(("chosen", BY3, A), Source([0], then=ON), (1, 4))
        self.check_round(("chosen", BY3, A), Source([3], then=ON), (2, 5))

    def test_with_rest_they_stay_as_they_are(self):
        self.check_round(A, Source([1], then=(("add", 1), ("rest", 9))), (1, 10))
        self.check_round(("chosen", BY3, A), Source([1], then=(("add", 1), ("rest", 9))), (1, 10))

    def test_nothing_and_all_that_matters(self):
        self.check_round(A, Source([1], then=ON), (2, 3))
        self.check_round(("chosen", ALL, A), Source([1], then=ON), None)
        self.check_round(("chosen", ALL, A), Source([1], then=(("times", 1),)), (1, 2))

    def test_counts(self):
        self.check_round(("chosen", BY3, ("count", -7, 3, None)), Source([]), (1, 2))
        self.check_round(("chosen", BY3, ("count", THIRTY, -1, None)), Source([]), (1, 4))
        self.check_round(("chosen", ALL, ("count", 5, 0, None)), Source([]), (1, 2))
        self.check_round(("merged", ("count", 5, 0, None), ("count", 6, 0, None)), Source([]), (2, 3))

    def test_a_fault_that_is_still_ahead(self):
        for leaf, faults in ((A, {9: 1}), (("again", 2, "a"), {9: 3}), (("again", 5, "a"), {9: None})):
            self.check_told(told_ahead(leaf, shelf_of(a=Source([1], then=ON, faults=faults))),
                            ("faults", 9, [((), 9)], 0))
        # A fault that doesn't go out is none; nor is one of a leaf that isn't asked for it.
        self.check_round(("again", 2, "a"), Source([1], then=ON, faults={9: 2}), (2, 3))
        self.check_told(told_ahead(("else", A, ("sums", COUNT)), shelf_of(a=Source([1], then=ON, faults={2: 1}))),
                        ("endless", 3, 1, 0))

    def test_an_endless_source_whose_told_things_are_over(self):
        self.check_round(A, Source([4, 4, 4], then=(("times", 1),)), (4, 5))
        self.check_round(A, Source([4, 4, 4], then=(("rest", 9),)), (3, 4))

    def test_how_many_it_gave_is_never_equal_to_a_number(self):
        # A count that gave none yet isn't one that gave 0 last.
        self.check_told(round_of(("behind", ("first", 0, COUNT), ("count", 0, 0, None)), Shelf()), (1, 2))
        self.check_told(round_of(("chosen", ALL, ("count", 0, 0, None)), Shelf()), (1, 2))


class Rounds(Case):
    def check_shown(self, plan, shelf, thing, told):
        before = shown([thing, shelf.log()])
        self.assertIs(shows_round(plan, shelf, thing), told, thing)
        self.assertIs(shows_round(thing=thing, shelf=shelf, plan=plan), told)
        self.assertEqual(shown([thing, shelf.log()]), before)

    def test_against_a_walk_that_looks_for_equal_stands(self):
        held = 0
        for chance, plan, shelf in runs(400, seed=115):
            walk = ModelWalk(plan, shelf, 60)
            for _ in range(6):
                other = chance.randint(1, 60)
                one = chance.randint(0, other - 1)
                holds = other < len(walk.stands) and walk.stands[one] == walk.stands[other]
                self.check_shown(plan, shelf, (one, other), holds)
                held += holds
            found = walk.round()
            if found is not None:
                self.check_shown(plan, shelf, found, True)
        self.assertGreater(held, 50)

    def test_the_least_another_one_and_one_of_one_number_less(self):
        plan = ("chosen", BY3, COUNT)
        self.check_told(round_of(plan, Shelf()), (1, 4))
        for thing in ((1, 4), (2, 5), (1, 7), (4, 7), (500, 1997)):
            self.check_shown(plan, Shelf(), thing, True)
        for thing in ((0, 3), (1, 3), (0, 4), (2, 4), (1, 5), (4, 1), (1, 1), (4, 4), (-2, 4), (-2, 1)):
            self.check_shown(plan, Shelf(), thing, False)

    def test_2000_and_2001(self):
        for thing, told in (((1, 2000), True), ((1999, 2000), True), ((2000, 2001), False), ((1, 2001), False),
                            ((0, 2000), False)):
            self.check_shown(COUNT, Shelf(), thing, told)

    def test_things_that_are_no_such_tuple(self):
        for thing in [*odd_things(), [1, 2], (1,), (1, 2, 3), (True, 2), (1, True), (False, True), (1, None),
                ("1", "2"),
                      (1.0, 2), {1: 2}]:
            self.check_shown(COUNT, Shelf(), thing, False)

    def test_where_it_does_not_go_round(self):
        for plan in (("count", 0, 0, 60), ("merged", COUNT, COUNT), ("first", 60, COUNT)):
            self.assertIs(round_of(plan, Shelf()), None)
            for thing in ((0, 1), (1, 2), (60, 61), (1, 2000)):
                self.check_shown(plan, Shelf(), thing, False)


class Matters(Case):
    def check_matters(self, plan, *told):
        """What matters at each spot, in their order."""
        self.check_told([what_matters(plan, spot) for spot in spots_of(plan)], list(told))
        self.check_told([what_matters(spot=spot, plan=plan) for spot in spots_of(plan)], list(told))

    def test_each_word(self):
        by5 = ("chosen", (((), "parts", 5, True),))
        self.check_matters(A, 1)
        self.check_matters(COUNT, 1)
        self.check_matters(("turned", (("add", 3), ("rest", 4)), A), 1, 1)
        self.check_matters(("chosen", BY3, A), 1, 3)
        self.check_matters(("while", ALL, A), 1, None)
        self.check_matters(("until", ((REST7, "below", 3, True), ((), "parts", 6, False)), A), 1, 42)
        self.check_matters(("groups", (("times", 3), ("rest", 4), ("add", 1)), A), 1, 4)
        self.check_matters(("groups", (), A), 1, None)
        self.check_matters(("matched", (("rest", 4),), 3, A, B), 1, 4, 4)
        self.check_matters(("merged", A, B), 1, None, None)
        self.check_matters(("sums", A), 1, 1)
        self.check_matters((*by5, ("sums", A)), 1, 5, None)
        for head in (("first", 3), ("skip", 3), ("windows", 2), ("flat",)):
            self.check_matters((*by5, (*head, A)), 1, 5, 5)
        for head in (("behind",), ("beside",), ("else",)):
            self.check_matters((*by5, (*head, A, B)), 1, 5, 5, 5)
        self.check_matters((*by5, ("merged", A, B)), 1, 5, None, None)
        self.check_matters((*by5, ("groups", (("rest", 4),), A)), 1, 5, 20)

    def test_turned_back_through_deeds(self):
        for deeds, told in (((), 6), (ON, 6), ((("times", 2),), 6), ((("rest", 4),), 4),
                ((("rest", 4), ("rest", 5)), 4),
                            ((("rest", 1),), 1), ((("rest", 9), ("rest", 1)), 1),
                            ((("add", 1), ("rest", 10), ("times", 3)), 10)):
            self.check_matters(("chosen", (((), "parts", 6, True),), ("turned", deeds, A)), 1, 6, told)
            self.check_matters(("chosen", ((deeds, "parts", 6, True),), A), 1, told)
            self.check_matters(("turned", deeds, A), 1, 1)
        # Of all that matters `rest` leaves its number, and what parts by 1 is nothing that matters.
        self.check_matters(("chosen", ((REST7, "is", 3, True),), A), 1, 7)
        self.check_matters(("chosen", ((REST7, "parts", 1, True),), A), 1, 1)
        self.check_matters(("merged", ("turned", REST7, A), B), 1, None, 7, None)

    def test_several_together(self):
        tests = (((), "parts", 4, True), ((), "parts", 6, True), ((("rest", 10),), "is", 3, True))
        self.check_matters(("chosen", tests, A), 1, 60)
        self.check_matters(("chosen", (*tests, ((), "below", 3, True)), A), 1, None)
        big = (((), "parts", THIRTY, True), ((), "parts", THIRTY - 1, True))
        self.check_matters(("chosen", big, A), 1, THIRTY * (THIRTY - 1))

    def test_plans_of_all_kinds(self):
        for plan in [*PLANS, *EDGES, *[plan for _, plan, _ in runs(300, seed=112)]]:
            self.check_matters(plan, *[matters(plan, spot) for spot in spots_of(plan)])

    def test_rows_over_numbers_that_are_equal_by_what_matters_do_alike(self):
        looked = 0
        for chance, plan, shelf in runs(1800, seed=113):
            by = [what_matters(plan, spot) for spot in spots_of(plan) if part_at(plan, spot)[-1] == "a"]
            things, then, page, faults, close_fault = shelf.source("a").told()
            if not by or None in by or then is not None or not things:
                continue
            moved = [thing + chance.randint(-2, 2) * math.lcm(*by) for thing in things]
            other = Shelf()
            for name in shelf.names():
                other.put_up(name, shelf.source(name) if name != "a" else Source(
                    moved, page=page, faults=dict(faults), close_fault=close_fault))
            one, two = Watched(plan, shelf.copied()), Watched(plan, other)
            self.assertEqual(one.watch(100), two.watch(100))
            self.check_told([one.told, one.asked(), one.room], [two.told, two.asked(), two.room])
            looked += 1
        self.assertGreater(looked, 50)


class Refused(Case):
    def test_what_no_argument_may_be_in_their_order(self):
        shelf = shelf_of(a=Source([1]))
        z = ("sums", ("from", "z"))
        for call in (told_ahead, round_of):
            for thing in odd_things():
                if not is_plan(thing):
                    for other, most in ((shelf, 5), (None, 0)):
                        self.check_refused(NoPlan, {"found": thing}, call, thing, other, most=most)
                    self.check_refused(NoPlan, {"found": thing}, call, shelf=shelf, plan=thing)
                for plan, most in ((A, 5), (z, True)):
                    self.check_refused(NoShelf, {"found": thing}, call, plan, thing, most=most)
                if not is_whole(thing, 1, 2000):
                    for plan in (A, z):
                        self.check_refused(NoNumber, {"found": thing}, call, plan, shelf, most=thing)
            for most in (0, 2001, -1, True):
                self.check_refused(NoNumber, {"found": most}, call, most=most, shelf=shelf, plan=A)
            for most in (1, 2000):
                self.check_refused(NotThere, {"found": "z"}, call, z, shelf, most=most)
            self.check_refused(NotThere, {"found": "y"}, call, ("behind", ("from", "y"), z), shelf)

    def test_shows_round(self):
        shelf = shelf_of(a=Source([1]))
        z = ("sums", ("from", "z"))
        for given in ((1, 2), None, [], (1, 2001)):
            for thing in odd_things():
                if not is_plan(thing):
                    self.check_refused(NoPlan, {"found": thing}, shows_round, thing, None, given)
                self.check_refused(NoShelf, {"found": thing}, shows_round, z, thing, given)
            self.check_refused(NotThere, {"found": "z"}, shows_round, z, shelf, given)

    def test_what_matters(self):
        for thing in odd_things():
            if not is_plan(thing):
                for spot in ((), None, (0,)):
                    self.check_refused(NoPlan, {"found": thing}, what_matters, thing, spot)
            if shown(thing) not in (shown(()), shown((1,))):
                self.check_refused(NoSpot, {"found": thing}, what_matters, ("merged", A, B), thing)
        for spot in ((2,), (True,), (False,), (0, 0), [0], 0):
            self.check_refused(NoSpot, {"found": spot}, what_matters, plan=("merged", A, B), spot=spot)


if __name__ == "__main__":
    unittest.main()
