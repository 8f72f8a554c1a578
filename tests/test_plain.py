"""Points 71 and 72: the plain reckoner, and how many things of each leaf are needed."""

import unittest

from greatrows.errors import Fault, NoNumber, NoPlan, NoShelf, NotThere, Over, TooMuch, Waits
from greatrows.plain import needs_told, plain_told
from greatrows.plans import is_plan, names_in
from greatrows.rows import row_of
from greatrows.shelves import Shelf
from greatrows.sources import Source
from greatrows.things import is_whole
from helpers import Case, odd_things, shelf_of, shown
from made_plans import EDGES, PLANS
from model import Run, runs

ON = (("add", 1),)
NEVER = (((), "below", 0, True),)
ODD = (((("rest", 2),), "is", 1, True),)
COUNT = ("count", 0, 1, None)
A, B = ("from", "a"), ("from", "b")


def modelled(plan, shelf, many):
    """Things, word and needs, as a run of generators has them."""
    run = Run(plan, shelf.copied(), most=1600)
    things = []
    word = "more"
    while word == "more" and len(things) < many:
        came = run.ask()
        if came[0] == "thing":
            things.append(came[1])
        else:
            word = {"over": "over", "open": "open"}.get(came[0], "fault")
    return (things, word), dict(sorted(run.asked.items()))


class Told(Case):
    def check_plain(self, plan, shelf, many, told, needs):
        before = shown(shelf.log())
        self.check_told(plain_told(plan, shelf, many), told)
        self.check_told(list(needs_told(plan, shelf, many).items()), list(needs.items()))
        self.check_told(plain_told(many=many, shelf=shelf, plan=plan), told)
        self.check_told(needs_told(many=many, shelf=shelf, plan=plan), needs)
        self.assertEqual(shown(shelf.log()), before)

    def test_as_generators_have_it(self):
        words = {}
        for chance, plan, shelf in runs(3000, seed=71):
            many = chance.choice((0, 1, 2, 3, 5, 10, 26, 60))
            told, needs = modelled(plan, shelf, many)
            self.check_plain(plan, shelf, many, told, needs)
            words[told[1]] = words.get(told[1], 0) + 1
        self.assertEqual(sorted(words), ["fault", "more", "open", "over"])
        self.assertGreater(min(words.values()), 20)

    def test_as_rows_on_a_copy_of_the_shelf_have_it(self):
        for chance, plan, shelf in runs(600, seed=72):
            many = chance.choice((0, 1, 4, 9, 50))
            (things, word), needs = plain_told(plan, shelf, many), needs_told(plan, shelf, many)
            if word == "open":
                continue
            row = row_of(plan, shelf.copied())
            told, ending = [], "more"
            while len(told) < many and ending == "more":
                try:
                    told.append(row.ask())
                except Over:
                    ending = "over"
                except (Fault, TooMuch):
                    ending = "fault"
                except Waits:
                    pass
            self.check_told((things, word), (told, ending))
            self.check_told(list(needs.items()), list(row.asked().items()))

    def test_every_word(self):
        for plan in [*PLANS, *EDGES]:
            shelf = shelf_of(**{name: Source([1, 2, 3], then=(("add", 2), ("rest", 5)), faults={9: 3})
                                for name in names_in(plan)})
            for many in (0, 5):
                self.check_plain(plan, shelf, many, *modelled(plan, shelf, many))

    def test_words(self):
        shelf = shelf_of(a=Source([1, 2, 3]))
        self.check_plain(A, shelf, 0, ([], "more"), {(): 0})
        self.check_plain(A, shelf, 2, ([1, 2], "more"), {(): 2})
        self.check_plain(A, shelf, 3, ([1, 2, 3], "more"), {(): 3})
        self.check_plain(A, shelf, 4, ([1, 2, 3], "over"), {(): 3})
        self.check_plain(("chosen", NEVER, A), shelf, 1, ([], "over"), {(0,): 3})
        shelf = shelf_of(a=Source([1, 2, 3], faults={2: 1}))
        self.check_plain(A, shelf, 2, ([1, 2], "more"), {(): 2})
        self.check_plain(A, shelf, 3, ([1, 2], "fault"), {(): 2})
        self.check_plain(("chosen", NEVER, COUNT), shelf, 1, ([], "open"), {(0,): 1600})

    def test_0_and_400_things(self):
        shelf = shelf_of(a=Source([0], then=ON, faults={399: 1}))
        self.check_plain(COUNT, shelf, 400, (list(range(400)), "more"), {(): 400})
        self.check_plain(A, shelf, 399, (list(range(399)), "more"), {(): 399})
        self.check_plain(A, shelf, 400, (list(range(399)), "fault"), {(): 399})
        self.check_plain(("count", 5, 5, 60), shelf, 400, ([5 * at for at in range(1, 61)], "over"), {(): 60})
        for plan in (("first", 0, A), ("chosen", NEVER, COUNT), A):
            self.check_told(plain_told(plan, shelf, 0), ([], "more"))
            self.check_told(list(needs_told(plan, shelf, 0).values()), [0])

    def test_a_leafs_1600th_and_1601st_thing(self):
        for leaf, shelf in ((COUNT, Shelf()), (A, shelf_of(a=Source([0], then=ON)))):
            for least, told in ((1599, ([1599], "more")), (1600, ([], "open"))):
                plan = ("chosen", (((), "below", least, False),), leaf)
                self.check_plain(plan, shelf, 1, told, {(0,): 1600})
            plan = ("while", (((), "below", 1599, True),), ("chosen", (((), "below", 1598, False),), leaf))
            self.check_plain(plan, shelf, 2, ([1598], "over"), {(0, 0): 1600})
            plan = ("while", (((), "below", 1600, True),), ("chosen", (((), "below", 1598, False),), leaf))
            self.check_plain(plan, shelf, 3, ([1598, 1599], "open"), {(0, 0): 1600})
        plan = ("beside", ("skip", 60, COUNT), ("chosen", NEVER, COUNT))
        self.check_plain(plan, Shelf(), 3, ([], "open"), {(0, 0): 61, (1, 0): 1600})

    def test_readings_begin_anew(self):
        shelf = shelf_of(a=Source([1, 2, 3], faults={1: 1}))
        reading = shelf.open_up("a")
        shelf.ask(reading)
        with self.assertRaises(Fault):
            shelf.ask(reading)
        shelf.ask(reading)
        self.check_plain(A, shelf, 3, ([1], "fault"), {(): 1})

    def test_from_and_again_at_faults(self):
        for tries in (1, 2, 5):
            leaf = ("again", tries, "a")
            for asks, told in ((tries, ([1, 2], "over")), (tries + 1, ([1], "fault")), (None, ([1], "fault"))):
                shelf = shelf_of(a=Source([1, 2], faults={1: asks}))
                self.check_plain(leaf, shelf, 5, told, {(): len(told[0])})
                self.check_plain(A, shelf, 5, ([1], "fault"), {(): 1})
        shelf = shelf_of(a=Source([1, 2], faults={2: 9}))
        self.check_plain(A, shelf, 5, ([1, 2], "over"), {(): 2})

    def test_what_was_gathered_at_a_fault_is_lost(self):
        shelf = shelf_of(a=Source([1, 2, 2], faults={3: 1}, then=ON), b=Source([1, 2, 2]))
        self.check_plain(("groups", (), A), shelf, 5, ([(1,)], "fault"), {(0,): 3})
        self.check_plain(("groups", (), B), shelf, 5, ([(1,), (2, 2)], "over"), {(0,): 3})
        self.check_plain(("windows", 3, A), shelf, 5, ([(1, 2, 2)], "fault"), {(0,): 3})
        self.check_plain(("windows", 4, A), shelf, 5, ([], "fault"), {(0,): 3})
        self.check_plain(("groups", (("times", 0),), COUNT), shelf, 2, ([tuple(range(8)), tuple(range(8, 16))], "more"),
                         {(0,): 16})


class Needs(Case):
    def check_needs(self, plan, shelf, *needs):
        """What the leaves are asked for, for 0 things, 1 thing, and so on."""
        for many, told in enumerate(needs):
            self.check_told(list(needs_told(plan, shelf, many).values()), list(told) if isinstance(told, tuple) else [told])

    def setUp(self):
        self.shelf = shelf_of(a=Source([1, 3, 2, 5]), b=Source([4, 4]), c=Source([]), d=Source([1, 2, 3], faults={2: 1}))

    def test_one_input(self):
        self.check_needs(("turned", ON, A), self.shelf, 0, 1, 2, 3, 4, 4)
        self.check_needs(("sums", A), self.shelf, 0, 1, 2, 3, 4, 4)
        self.check_needs(("chosen", ODD, A), self.shelf, 0, 1, 2, 4, 4, 4)
        self.check_needs(("while", ODD, A), self.shelf, 0, 1, 2, 3, 3)
        self.check_needs(("until", (((), "is", 2, True),), A), self.shelf, 0, 1, 2, 3, 3)
        self.check_needs(("first", 0, A), self.shelf, 0, 0, 0)
        self.check_needs(("first", 2, A), self.shelf, 0, 1, 2, 2)
        self.check_needs(("skip", 0, A), self.shelf, 0, 1, 2)
        self.check_needs(("skip", 2, A), self.shelf, 0, 3, 4, 4)
        self.check_needs(("skip", 60, A), self.shelf, 0, 4)
        self.check_needs(("windows", 1, A), self.shelf, 0, 1, 2)
        self.check_needs(("windows", 3, A), self.shelf, 0, 3, 4, 4)
        self.check_needs(("windows", 8, COUNT), self.shelf, 0, 8, 9)
        self.check_needs(("groups", (("rest", 2),), A), self.shelf, 0, 3, 4, 4)
        self.check_needs(("groups", (("times", 0),), COUNT), self.shelf, 0, 8, 16)
        self.check_needs(("flat", ("windows", 3, A)), self.shelf, 0, 3, 3, 3, 4, 4, 4, 4)

    def test_flat_needs_none_while_things_of_a_tuple_are_left(self):
        plan = ("flat", ("flat", ("windows", 2, ("windows", 2, COUNT))))
        self.check_needs(plan, self.shelf, 0, 3, 3, 3, 3, 4)

    def test_behind_and_else(self):
        self.check_needs(("behind", A, B), self.shelf, (0, 0), (1, 0), (2, 0), (3, 0), (4, 0), (4, 1), (4, 2), (4, 2))
        self.check_needs(("behind", ("from", "d"), B), self.shelf, (0, 0), (1, 0), (2, 0), (2, 0))
        self.check_needs(("else", ("from", "d"), B), self.shelf, (0, 0), (1, 0), (2, 0), (2, 1), (2, 2), (2, 2))
        self.check_needs(("else", B, A), self.shelf, (0, 0), (1, 0), (2, 0), (2, 0))

    def test_beside(self):
        self.check_needs(("beside", A, B), self.shelf, (0, 0), (1, 1), (2, 2), (3, 2))
        self.check_needs(("beside", B, A), self.shelf, (0, 0), (1, 1), (2, 2), (2, 2))
        self.check_needs(("beside", B, B), self.shelf, (0, 0), (1, 1), (2, 2), (2, 2))
        self.check_needs(("beside", ("from", "d"), COUNT), self.shelf, (0, 0), (1, 1), (2, 2), (2, 2))
        self.check_needs(("beside", COUNT, ("from", "d")), self.shelf, (0, 0), (1, 1), (2, 2), (3, 2))

    def test_merged(self):
        self.check_needs(("merged", A, B), self.shelf, (0, 0), (1, 1), (2, 1), (3, 1), (4, 1), (4, 2), (4, 2), (4, 2))
        self.check_needs(("merged", B, B), self.shelf, (0, 0), (1, 1), (2, 1), (2, 1), (2, 2), (2, 2))
        faulty = shelf_of(d=Source([1], faults={0: 1}), e=Source([5, 6], faults={1: 1}), b=Source([4, 7, 8]))
        self.check_needs(("merged", ("from", "d"), B), faulty, (0, 0), (0, 0))
        self.check_needs(("merged", B, ("from", "d")), faulty, (0, 0), (1, 0))
        self.check_needs(("merged", ("from", "e"), B), faulty, (0, 0), (1, 1), (1, 2), (1, 2))
        self.check_needs(("merged", B, ("from", "e")), faulty, (0, 0), (1, 1), (2, 1), (2, 1))

    def test_matched(self):
        plan = ("matched", (("rest", 2),), 2, A, ("from", "b"))
        self.check_needs(plan, self.shelf, (0, 0), (3, 2), (3, 2), (4, 2))
        self.check_needs(("matched", (), 1, A, B), self.shelf, (0, 0), (0, 2))
        self.check_needs(("matched", (), 8, A, ("from", "c")), self.shelf, (0, 0), (0, 0))
        self.check_needs(("matched", (), 8, A, ("from", "d")), self.shelf, (0, 0), (0, 2))
        self.check_told(plain_told(("matched", (), 1, A, B), self.shelf, 1), ([], "fault"))
        self.check_told(plain_told(("matched", (), 8, A, ("from", "c")), self.shelf, 1), ([], "over"))
        self.check_told(plain_told(("matched", (), 8, A, ("from", "d")), self.shelf, 1), ([], "fault"))

    def test_dicts_are_new_and_in_reading_order(self):
        plan = ("beside", ("merged", A, COUNT), ("behind", B, ("again", 1, "a")))
        told = needs_told(plan, self.shelf, 3)
        self.check_told(list(told), [(0, 0), (0, 1), (1, 0), (1, 1)])
        told.clear()
        self.check_told(len(needs_told(plan, self.shelf, 3)), 4)
        things, _ = plain_told(plan, self.shelf, 3)
        things.clear()
        self.check_told(len(plain_told(plan, self.shelf, 3)[0]), 3)


class Refused(Case):
    def test_what_no_argument_may_be_in_their_order(self):
        shelf = shelf_of(a=Source([1]))
        for call in (plain_told, needs_told):
            for thing in odd_things():
                if not is_plan(thing):
                    for other, many in ((shelf, 1), (None, True)):
                        self.check_refused(NoPlan, {"found": thing}, call, thing, other, many)
                    self.check_refused(NoPlan, {"found": thing}, call, many=401, shelf=shelf, plan=thing)
                for plan, many in ((A, 1), (B, -1)):
                    self.check_refused(NoShelf, {"found": thing}, call, plan, thing, many)
                    self.check_refused(NoShelf, {"found": thing}, call, many=many, shelf=thing, plan=plan)
                if not is_whole(thing, 0, 400):
                    for plan in (A, B):
                        self.check_refused(NoNumber, {"found": thing}, call, plan, shelf, thing)
                        self.check_refused(NoNumber, {"found": thing}, call, many=thing, shelf=shelf, plan=plan)
            for many in (-1, 401, True, False):
                self.check_refused(NoNumber, {"found": many}, call, A, shelf, many)
            call(A, shelf, 400)

    def test_the_first_name_that_the_shelf_lacks(self):
        shelf = shelf_of(a=Source([1]))
        plan = ("behind", ("else", A, ("again", 1, "c")), ("merged", B, ("from", "c")))
        for call in (plain_told, needs_told):
            for many in (0, 400):
                self.check_refused(NotThere, {"found": "c"}, call, plan, shelf, many)
                self.check_refused(NotThere, {"found": "b"}, call, ("first", 0, plan[2]), shelf, many)
            self.check_refused(NotThere, {"found": "a"}, call, A, Shelf(), 0)


if __name__ == "__main__":
    unittest.main()
