"""Point 106: all orders of turns, and of the shortest ones the first."""

import itertools
import unittest

from greatrows.errors import NoNumber, NoPlan, NoShelf, NotThere
from greatrows.hands import Hands
from greatrows.orders import ends_by_turns, shows_turns
from greatrows.plain import plain_told
from greatrows.plans import is_plan, spots_of
from greatrows.shelves import Shelf
from greatrows.sources import Source
from greatrows.things import is_whole
from helpers import Case, odd_things, shelf_of, shown
from made_runs import NEVER, ON
from model import runs
from model_hands import ModelHands

A, B, C = ("from", "a"), ("from", "b"), ("from", "c")
COUNT = ("count", 0, 1, None)


def is_told(hands, many):
    return len(hands.told) >= many or hands.ending is not None


def shortest_one_by_one(plan, shelf, many, room):
    """The shortest order, by going through all lists of spots, the shorter ones first; and what all so short come to."""
    spots = sorted(spots_of(plan))
    for length in itertools.count():
        found = []
        ends = []
        for order in itertools.product(spots, repeat=length):
            hands = ModelHands(plan, shelf.copied(), room)
            for at, spot in enumerate(order):
                if is_told(hands, many) or not hands.turn(spot):
                    break
            else:
                if is_told(hands, many):
                    found.append(list(order))
                    end = (hands.told, hands.ending)
                    if end not in ends:
                        ends.append(end)
        if found:
            return found[0], ends


def all_ends(plan, shelf, many, room):
    """What all orders come to, by one that goes through them all, each turn that does anything on a new run."""
    ends = []
    seen = set()
    left = [()]
    while left:
        order = left.pop()
        hands = ModelHands(plan, shelf.copied(), room)
        for spot in order:
            hands.turn(spot)
        stand = repr([hands.told, hands.ending, hands.asked(), [
            (hand.row, hand.met, hand.does_nothing,
            hand.machine and hand.machine.stands()) for hand in hands.hands.values()]])
        if stand in seen:
            continue
        seen.add(stand)
        if is_told(hands, many):
            if (hands.told, hands.ending) not in ends:
                ends.append((hands.told, hands.ending))
            continue
        for spot in hands.hands:
            again = ModelHands(plan, shelf.copied(), room)
            for other in order:
                again.turn(other)
            if again.turn(spot):
                left.append((*order, spot))
    return ends


class Ends(Case):
    def check_told_and_shown(self, plan, shelf, many, room):
        ends, order = ends_by_turns(plan, shelf, many, room=room)
        self.assertIs(shows_turns(plan, shelf, many, order, room=room), True)
        things, word = plain_told(plan, shelf, many)
        self.assertEqual([end[0] for end in ends], [things])
        self.assertEqual(ends[0][1] is None, word == "more")
        return ends, order

    def test_small_plans_against_an_account_that_goes_through_all_orders(self):
        many_plans = 0
        for chance, plan, shelf in runs(400, seed=106, most=4):
            many, room = chance.choice((0, 1, 2, 3)), chance.choice((1, 1, 2))
            if plain_told(plan, shelf, 12)[1] == "open":
                continue
            ends, order = self.check_told_and_shown(plan, shelf, many, room)
            if len(spots_of(plan)) <= 2 or many <= 1:
                self.check_told(ends, all_ends(plan, shelf, many, room))
            if len(spots_of(plan)) ** len(order) <= 3000:
                first, shortest = shortest_one_by_one(plan, shelf, many, room)
                self.check_told(order, first)
                self.check_told(shortest, ends)
                many_plans += 1
        self.assertGreater(many_plans, 100)

    def test_four_tuples_and_four_things(self):
        shelf = shelf_of(a=Source([1, 4], then=ON), b=Source([2, 3, 9], faults={2: 1}), c=Source([5, 6, 7]))
        for plan in (("turned", (), ("merged", A, B)), ("else", ("sums", B), C), ("beside", ("flat", A), C),
                     ("matched", (("rest", 2),), 4, A, ("first", 2, C)), ("windows", 2, ("skip", 1, ("sums", A)))):
            for room in (1, 2):
                self.check_told_and_shown(plan, shelf, 4, room)

    def test_0_things(self):
        shelf = shelf_of(a=Source([]))
        for plan in (A, ("sums", COUNT), ("chosen", NEVER, COUNT)):
            for room in (1, 4):
                self.check_told(ends_by_turns(plan, shelf, 0, room=room), ([([], None)], []))
                self.assertIs(shows_turns(plan, shelf, 0, [], room=room), True)
                self.assertIs(shows_turns(plan, shelf, 0, (), room=room), True)
                self.assertIs(shows_turns(plan, shelf, 0, [()], room=room), False)

    def test_more_things_than_there_are_and_a_fault(self):
        shelf = shelf_of(a=Source([7, 8]), b=Source([9], faults={0: 1}), c=Source([3], faults={1: 1}, then=ON))
        self.check_told(ends_by_turns(A, shelf, 3), ([([7, 8], ("over",))], [(), (), ()]))
        self.check_told(ends_by_turns(A, shelf, 2), ([([7, 8], None)], [(), ()]))
        self.check_told(ends_by_turns(B, shelf, 4), ([([], ("fault", "b", 0))], [()]))
        self.check_told(ends_by_turns(("sums", C), shelf, 4), (
            [([3], ("fault", "c", 1))], [(0,), (), (), (0,), (), ()]))
        self.check_told(ends_by_turns(("matched", (), 1, A, ("count", 1, 1, 2)), shelf, 1)[0], [([], ("much", 1))])

    def test_rooms_1_and_2(self):
        plan = ("sums", COUNT)
        self.check_told(ends_by_turns(plan, Shelf(), 2), ([([0, 1], None)], [(0,), (), (), (0,), (), ()]))
        self.check_told(ends_by_turns(plan, Shelf(), 2, room=2), ([([0, 1], None)], [(0,), (), (), (0,), (), ()]))
        # With a room of 1 the leaf can't ask twice ahead.
        ahead = [(0,), (0,), (), (), (), ()]
        self.check_told([shows_turns(plan, Shelf(), 2, ahead), shows_turns(plan, Shelf(), 2, ahead, room=2)],
            [False, True])

    def test_among_several_shortest_orders_the_first(self):
        plan = ("beside", COUNT, COUNT)
        first = [(0,), (), (1,), (), ()]
        self.check_told(ends_by_turns(plan, Shelf(), 1), ([([(0, 0)], None)], first))
        for other in ([(0,), (1,), (), (), ()], [(1,), (0,), (), (), ()]):
            self.assertIs(shows_turns(plan, Shelf(), 1, other), True)
            self.assertLess(first, other)

    def test_the_shelf_is_not_asked_and_its_readings_decide_nothing(self):
        shelf = shelf_of(a=Source([7, 8], faults={1: 1}))
        reading = shelf.open_up("a")
        shelf.ask(reading)
        log = shown(shelf.log())
        self.check_told(ends_by_turns(A, shelf, 2), ([([7], ("fault", "a", 1))], [(), ()]))
        self.assertIs(shows_turns(A, shelf, 2, [(), ()]), True)
        self.assertEqual(shown(shelf.log()), log)
        self.check_told([shelf.open_ones(), shelf.place(reading)], [[reading], 1])

    def test_lists_are_new(self):
        ends, order = ends_by_turns(COUNT, Shelf(), 2)
        ends[0][0].clear()
        ends.clear()
        order.clear()
        self.check_told(ends_by_turns(COUNT, Shelf(), 2), ([([0, 1], None)], [(), ()]))


class Shown(Case):
    def test_too_long_too_short_and_a_turn_that_does_nothing(self):
        plan = ("sums", COUNT)
        order = [(0,), (), ()]
        for thing, told in ((order, True), (tuple(order), True), (order[:2], False), ([*order, (0,)], False),
                ([], False),
                            ([(), *order], False), ([(0,), (0,), (), ()], False), ([(0,), (), (0,), ()], True)):
            before = shown(thing)
            self.assertIs(shows_turns(plan, Shelf(), 1, thing), told)
            self.assertIs(shows_turns(room=1, thing=thing, many=1, shelf=Shelf(), plan=plan), told)
            self.assertEqual(shown(thing), before)

    def test_a_spot_may_lack_and_may_stand_more_than_once(self):
        plan = ("behind", COUNT, COUNT)
        for many, order in ((1, [(0,), (), ()]), (2, [(0,), (), (), (0,), (), ()]), (1, [(1,), (0,), (), (0,), ()])):
            self.assertIs(shows_turns(plan, Shelf(), many, order), True)
        self.assertIs(shows_turns(plan, Shelf(), 1, [(0,), (), (), (1,)]), False)
        self.check_told(ends_by_turns(plan, Shelf(), 1), ([([0], None)], [(0,), (), ()]))

    def test_behind_the_ending(self):
        shelf = shelf_of(a=Source([]))
        for thing, told in (([()], True), ([], False), ([(), ()], False)):
            self.assertIs(shows_turns(A, shelf, 3, thing), told)

    def test_things_that_are_no_list_of_spots(self):
        for thing in odd_things():
            self.assertIs(shows_turns(("sums", COUNT), Shelf(), 1, thing), False)
            if shown(thing) != shown(()):
                self.assertIs(shows_turns(COUNT, Shelf(), 1, [thing]), False)
        for thing in ([(False,), (), ()], [(0,), (), (0, 0)], [[0], (), ()], [0, (), ()], {(0,): 1}, [(0,), (), None]):
            self.assertIs(shows_turns(("sums", COUNT), Shelf(), 1, thing), False)

    def test_as_turns_by_hand(self):
        for chance, plan, shelf in runs(300, seed=16, most=4):
            many, room = chance.randint(0, 2), chance.randint(1, 4)
            order = [chance.choice(spots_of(plan)) for _ in range(chance.randint(0, 6))]
            hands = Hands(plan, shelf.copied(), room=room)
            holds = True
            for spot in order:
                holds = holds and not (len(hands.told()) >= many or hands.ending()) and hands.turn(spot)
            holds = holds and bool(len(hands.told()) >= many or hands.ending())
            self.assertIs(shows_turns(plan, shelf, many, order, room=room), holds)


class Refused(Case):
    def test_in_the_order_of_the_arguments(self):
        shelf = shelf_of(a=Source([1]))
        z = ("sums", ("from", "z"))
        for call, more in ((ends_by_turns, []), (shows_turns, [[]]), (shows_turns, [None])):
            for thing in odd_things():
                if not is_plan(thing):
                    for other, many, room in ((shelf, 1, 1), (None, -1, 5)):
                        self.check_refused(NoPlan, {"found": thing}, call, thing, other, many, *more, room=room)
                for plan, many, room in ((A, 1, 1), (z, True, 0)):
                    self.check_refused(NoShelf, {"found": thing}, call, plan, thing, many, *more, room=room)
                if not is_whole(thing, 0, 400):
                    for plan, room in ((A, 1), (z, True)):
                        self.check_refused(NoNumber, {"found": thing}, call, plan, shelf, thing, *more, room=room)
                if not is_whole(thing, 1, 4):
                    for plan in (A, z):
                        self.check_refused(NoNumber, {"found": thing}, call, plan, shelf, 1, *more, room=thing)
            for many in (-1, 401, True):
                self.check_refused(NoNumber, {"found": many}, call, A, shelf, many, *more)
            for room in (0, 5, True):
                self.check_refused(NoNumber, {"found": room}, call, A, shelf, 1, *more, room=room)
            for many in (0, 400):
                self.check_refused(NotThere, {"found": "z"}, call, z, shelf, many, *more)
        self.check_refused(NoPlan, {"found": 1}, ends_by_turns, room=0, many=-1, shelf=None, plan=1)
        self.check_refused(NoShelf, {"found": 1}, shows_turns, room=0, thing=1, many=-1, shelf=1, plan=z)
        self.assertEqual(shelf.log(), [])


if __name__ == "__main__":
    unittest.main()
