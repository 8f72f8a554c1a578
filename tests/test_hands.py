"""Points 101 to 105: runs by hands."""

import unittest

from greatrows.errors import NoNumber, NoOrder, NoPlan, NoShelf, NoSpot, NotShut, NotThere
from greatrows.hands import Hands
from greatrows.plain import needs_told, plain_told
from greatrows.plans import is_plan, names_in, spots_of
from greatrows.rows import row_of
from greatrows.shelves import Shelf
from greatrows.sources import Source
from greatrows.things import is_whole
from helpers import Case, answer, odd_things, shelf_of, shown
from made_plans import EDGES, PLANS
from made_runs import NEVER, ON, drawn_order
from model import runs
from model_hands import ModelHands

A, B, C = ("from", "a"), ("from", "b"), ("from", "c")
COUNT = ("count", 0, 1, None)
ODD = (((("rest", 2),), "is", 1, True),)


def state(hands):
    """All that Hands tell of themselves; the order of a dict's keys is told, too."""
    return shown([hands.told(), hands.ending(), list(hands.waiting().items()), list(hands.asked().items()),
                  hands.not_shut()])


def turns(hands, *spots):
    return [hands.turn(spot) for spot in spots]


def full_shelf(**more):
    return shelf_of(a=Source([1], then=ON, page=8), b=Source([2, 3], page=8), c=Source([7], faults={0: None}), **more)


class Whole(Case):
    def check_moment(self, hands, model, shelf, other):
        self.assertEqual(state(hands), shown([
            model.told, model.ending, list(model.waiting().items()), list(model.asked().items()), model.not_shut]))
        self.assertEqual(shelf.log(), other.log())
        for hand in model.hands.values():
            self.assertLessEqual(hand.asked, hand.taken + model.room)

    def test_as_the_document_tells_in_drawn_orders_of_turns(self):
        endings = {}
        for chance, plan, shelf in runs(900, seed=101):
            room = chance.randint(1, 4)
            other = shelf.copied()
            hands, model = Hands(plan, shelf, room=room), ModelHands(plan, other, room)
            spots = spots_of(plan)
            for _ in range(120):
                spot = chance.choice(spots)
                self.assertIs(hands.turn(spot), model.turn(spot))
                self.check_moment(hands, model, shelf, other)
                if chance.random() < 0.003:
                    names = model.close()
                    self.check_told(answer(hands.close), ("not shut", names) if names else ("thing", None))
                    self.check_moment(hands, model, shelf, other)
            endings[hands.ending() and hands.ending()[0]] = True
        self.assertEqual(set(endings), {None, "over", "fault", "much"})

    def test_what_the_plain_reckoner_tells(self):
        came = {}
        for chance, plan, shelf in runs(700, seed=105):
            many = chance.choice((0, 1, 3, 8, 20))
            things, word = plain_told(plan, shelf, many)
            if word == "open":
                continue
            hands = Hands(plan, shelf, room=chance.randint(1, 4))
            spots = spots_of(plan)
            while len(hands.told()) < many and hands.ending() is None:
                chance.shuffle(spots)
                # Till then some hand can do something.
                self.assertIn(True, turns(hands, *spots[:chance.randint(1, len(spots))], *spots))
            self.check_told(hands.told()[:many], things)
            if word != "more":
                self.check_told(hands.told(), things)
                self.assertEqual(hands.ending()[0] == "over", word == "over")
            came[word] = came.get(word, 0) + 1
        self.assertEqual(sorted(came), ["fault", "more", "over"])

    def test_the_ending_is_that_of_a_row_and_all_is_shut_once(self):
        for chance, plan, shelf in runs(500, seed=103):
            row = row_of(plan, shelf.copied())
            came = ("thing",)
            while came[0] == "thing" and row.told_many() < 40:
                came = answer(row.ask)
            hands = Hands(plan, shelf, room=chance.randint(1, 4))
            spots = spots_of(plan)
            for _ in range(chance.choice((20, 1000))):
                hands.turn(chance.choice(spots))
            if hands.ending() is not None and came[0] not in ("thing", "waits"):
                self.check_told(hands.ending(), came)
            answer(hands.close)
            self.check_told([shelf.open_ones(), set(hands.waiting().values()) - {0}], [[], set()])
            readings = [row[1] for row in shelf.log() if row[0] == "open"]
            self.assertEqual(sorted(row[1] for row in shelf.log() if row[0] in ("shut", "badly")), readings)
            self.assertEqual(hands.not_shut(), [shelf.name_of(row[1]) for row in shelf.log() if row[0] == "badly"])

    def test_every_word(self):
        for plan in [*PLANS, *EDGES]:
            shelf = shelf_of(**{name: Source([1, 2, 3], then=(("add", 2), ("rest", 5)), faults={9: 3})
                                for name in names_in(plan)})
            hands = Hands(plan, shelf)
            hands.run(spots_of(plan), 5)
            things, word = plain_told(plan, shelf, 5)
            if word != "open":
                self.check_told([hands.told(), (hands.ending() or ("more",))[0].replace("much", "fault")],
                    [things, word])

    def test_at_most_what_rooms_hold_more_is_asked(self):
        for chance, plan, shelf in runs(300, seed=106):
            if plain_told(plan, shelf, 6)[1] == "open":
                continue
            room = chance.randint(1, 4)
            hands = Hands(plan, shelf, room=room)
            hands.run(spots_of(plan), 6)
            if plan[0] in ("from", "again", "count"):
                self.check_told(hands.asked(), needs_told(plan, shelf, 6))
            elif plan[0] in ("turned", "sums", "flat", "first") and plan[-1][0] in ("from", "again", "count"):
                for spot, many in needs_told(plan, shelf, 6).items():
                    self.assertLessEqual(hands.asked()[spot], many + room)


class Turns(Case):
    def test_a_leaf_asks_for_one_thing_while_its_row_has_room(self):
        for room in (1, 2, 3, 4):
            shelf = full_shelf()
            hands = Hands(("turned", (), A), shelf, room=room)
            self.check_told(turns(hands, *[(0,)] * 6), [True] * room + [False] * (6 - room))
            self.check_told([hands.waiting(), hands.asked(), hands.told()], [{(0,): room}, {(0,): room}, []])
            self.check_told(shelf.log(), [("open", 0, "a"), ("load", 0, 0), *[("ask", 0, at, 1) for at in range(room)]])

    def test_the_room_is_1_where_none_is_told(self):
        hands = Hands(("turned", (), A), full_shelf())
        self.check_told(turns(hands, (0,), (0,)), [True, False])

    def test_what_the_whole_plans_hand_gives_is_told(self):
        hands = Hands(COUNT, Shelf())
        self.check_told([turns(hands, (), ()), hands.told(), hands.waiting(), hands.asked(), hands.ending()],
                        [[True, True], [0, 1], {}, {(): 2}, None])

    def test_a_leafs_end_and_its_reading(self):
        shelf = shelf_of(a=Source([5], page=8))
        hands = Hands(A, shelf)
        self.check_told([turns(hands, (), (), ()), hands.told(), hands.ending()], [[True, True, False], [5], ("over",)])
        self.check_told(shelf.log(), [("open", 0, "a"), ("load", 0, 0), ("ask", 0, 0, 1), ("end", 0), ("shut", 0)])
        shelf = shelf_of(a=Source([5], page=8))
        hands = Hands(("sums", A), shelf, room=2)
        self.check_told([turns(hands, (0,), (0,), (0,)), hands.waiting(), hands.asked()],
                        [[True, True, False], {(0,): 2}, {(0,): 1}])
        self.check_told([shelf.open_ones(), hands.ending()], [[], None])

    def test_an_end_waits_for_room(self):
        shelf = shelf_of(a=Source([5], page=8))
        hands = Hands(("sums", A), shelf)
        self.check_told([turns(hands, (0,), (0,)), shelf.open_ones()], [[True, False], [0]])
        self.check_told([turns(hands, (), (0,)), shelf.open_ones(), hands.waiting()], [[True, True], [], {(0,): 1}])
        # The one gives what lies ready ahead of taking the end.
        self.check_told([turns(hands, ()), hands.waiting(), hands.told()], [[True], {(0,): 1}, [5]])
        self.check_told([turns(hands, ()), hands.waiting(), hands.ending()], [[True], {(0,): 0}, None])
        self.check_told([turns(hands, (), ()), hands.ending()], [[True, False], ("over",)])

    def test_a_fault_waits_for_room_and_its_reading_stays_open(self):
        shelf = shelf_of(a=Source([5, 6], faults={1: 1}, page=8))
        hands = Hands(("sums", A), shelf)
        self.check_told(turns(hands, (0,), (0,), (), (0,), (0,)), [True, False, True, True, False])
        self.check_told([shelf.open_ones(), hands.waiting(), hands.asked()], [[0], {(0,): 1}, {(0,): 1}])
        self.check_told(shelf.log()[-1], ("fault", 0, 1))
        # It gives what lies ready, then takes the fault, by which all inputs are done with, then gives the fault.
        self.check_told([turns(hands, ()), hands.told(), shelf.open_ones()], [[True], [5], [0]])
        self.check_told([turns(hands, ()), hands.ending(), shelf.open_ones(), hands.waiting()],
            [[True], None, [], {(0,): 0}])
        self.check_told([turns(hands, (), (), (0,)), hands.ending()], [[True, False, False], ("fault", "a", 1)])

    def test_again_tries_in_one_turn(self):
        for tries, faults, came in ((2, 2, True), (2, 3, False), (5, 5, True), (1, None, False)):
            shelf = shelf_of(a=Source([5], faults={0: faults}, page=8))
            hands = Hands(("again", tries, "a"), shelf)
            self.assertIs(hands.turn(()), True)
            self.check_told([hands.told(), hands.ending()], [[5], None] if came else [[], ("fault", "a", 0)])
            self.assertEqual(len([row for row in shelf.log() if row[0] == "fault"]), tries if came else tries + 1)

    def test_a_turn_that_cannot_do_anything(self):
        shelf = full_shelf()
        hands = Hands(("merged", A, B), shelf)
        before = state(hands)
        self.check_told([turns(hands, (), ()), shelf.log(), state(hands) == before], [[False, False], [], True])
        self.check_told(turns(hands, (1,), ()), [True, False])
        hands = Hands(("count", 0, 1, 0), Shelf())
        self.check_told([turns(hands, (), (), ()), hands.ending()], [[True, False, False], ("over",)])

    def test_a_hand_takes_though_its_row_is_full(self):
        hands = Hands(("sums", ("turned", (), COUNT)), Shelf())
        self.check_told(turns(hands, (0, 0), (0,), (0,), (0, 0), (0,), (0, 0), (0,)), [True] * 6 + [False])
        self.check_told(hands.waiting(), {(0,): 1, (0, 0): 1})

    def test_a_hand_that_needs_the_other_input(self):
        hands = Hands(("beside", COUNT, COUNT), Shelf())
        self.check_told(turns(hands, (1,), (), (0,), (), (0,), ()), [True, False, True, True, True, True])
        self.check_told([hands.waiting(), hands.told()], [{(0,): 1, (1,): 0}, []])
        self.check_told([turns(hands, ()), hands.told()], [[True], [(0, 0)]])

    def test_what_lies_ready_is_given_ahead_of_a_fault(self):
        shelf = shelf_of(a=Source([5, 6], faults={2: None}, then=ON))
        hands = Hands(("flat", ("windows", 2, A)), shelf, room=4)
        hands.run([(0, 0), (0,), ()], 1)
        turns(hands, *[(0, 0), (0, 0), (0,), (0,), (0,)])
        self.check_told([hands.waiting()[(0,)], hands.told()], [1, [5]])
        self.check_told([turns(hands, (), (), ()), hands.told(), hands.ending()],
            [[True] * 3, [5, 6], ("fault", "a", 2)])


class DoneWith(Case):
    def test_else_goes_on_behind_a_fault(self):
        shelf = shelf_of(a=Source([1], faults={1: None}, then=ON, page=8), b=Source([5], page=8))
        hands = Hands(("else", A, B), shelf, room=3)
        turns(hands, (0,), (0,), (1,), (), ())
        self.check_told([hands.told(), shelf.open_ones(), hands.waiting()], [[1], [0, 1], {(0,): 1, (1,): 1}])
        self.check_told([turns(hands, (), (0,)), shelf.open_ones(), hands.waiting()],
            [[True, False], [1], {(0,): 0, (1,): 1}])
        hands.run(spots_of(("else", A, B)), 9)
        self.check_told([hands.told(), hands.ending()], [[1, 5], ("over",)])

    def test_a_fault_of_input_1_of_else(self):
        shelf = shelf_of(a=Source([1], faults={0: None}), c=Source([7], faults={0: None}))
        hands = Hands(("else", A, C), shelf, room=4)
        hands.run([(), (0,), (1,)], 9)
        self.check_told([hands.told(), hands.ending(), shelf.open_ones()], [[], ("fault", "c", 0), []])

    def test_too_much_of_matched_and_of_the_whole_plan(self):
        plan = ("matched", (), 1, A, ("count", 1, 1, 3))
        shelf = full_shelf()
        hands = Hands(plan, shelf, room=4)
        self.check_told(turns(hands, (0,), (1,), (1,), (), ()), [True] * 5)
        self.check_told([hands.ending(), shelf.open_ones(), hands.waiting()], [None, [], {(0,): 0, (1,): 0}])
        self.check_told([turns(hands, (1,), (0,), (), ()), hands.ending()], [[False, False, True, False], ("much", 1)])
        hands = Hands(("else", plan, B), shelf)
        hands.run(spots_of(("else", plan, B)), 9)
        self.check_told([hands.told(), hands.ending()], [[2, 3], ("over",)])

    def test_what_is_needed_no_more_from_the_first_on(self):
        shelf = full_shelf()
        hands = Hands(("behind", ("first", 0, ("sums", A)), B), shelf)
        self.check_told([turns(hands, (0, 0), (0, 0, 0)), shelf.log()], [[False, False], []])
        self.check_told(turns(hands, (0,), (0,)), [True, False])

    def test_what_is_needed_no_more_is_shut_at_once(self):
        shelf = full_shelf()
        hands = Hands(("first", 1, ("merged", A, B)), shelf, room=2)
        turns(hands, (0, 1), (0, 0), (0, 0), (0, 1), (0,), (0,), (0,))
        self.check_told([shelf.open_ones(), hands.waiting()], [[0, 1], {(0,): 1, (0, 0): 1, (0, 1): 1}])
        self.check_told([turns(hands, ()), shelf.open_ones(), hands.waiting()],
                        [[True], [], {(0,): 0, (0, 0): 0, (0, 1): 0}])
        # The one opened last is shut first.
        self.check_told(shelf.log()[-2:], [("shut", 1), ("shut", 0)])
        self.check_told([turns(hands, (0,), (0, 0), (0, 1)), hands.ending()], [[False] * 3, None])
        self.check_told([turns(hands, (), ()), hands.told(), hands.ending()], [[True, True], [1], ("over",)])

    def test_all_inputs_of_a_hand_that_met_a_fault_are_shut_in_one_order(self):
        shelf = full_shelf(d=Source([4], then=ON, close_fault=True), e=Source([4], then=ON, close_fault=True))
        plan = ("beside", ("merged", ("from", "d"), A), ("merged", ("from", "e"), C))
        hands = Hands(("else", plan, B), shelf, room=2)
        turns(hands, (0, 0, 0), (0, 1, 0), (0, 0, 1), (0, 1, 1), (0, 0), (0, 0), (0, 0), (0, 1), (0, 1), (0, 1))
        self.check_told([shelf.log()[-2:], hands.not_shut()], [[("shut", 3), ("badly", 1)], ["e"]])
        turns(hands, (0,), (0,))
        self.check_told([shelf.log()[-2:], hands.not_shut()], [[("shut", 2), ("badly", 0)], ["e", "d"]])

    def test_all_is_done_with_when_the_ending_is_told(self):
        shelf = full_shelf(d=Source([4], then=ON, close_fault=True), e=Source([4], then=ON, close_fault=True))
        plan = ("beside", B, ("merged", ("from", "d"), ("from", "e")))
        hands = Hands(plan, shelf, room=4)
        hands.run(spots_of(plan), 400)
        self.check_told([hands.told(), hands.ending(), hands.not_shut()], [[(2, 4), (3, 4)], ("over",), ["e", "d"]])
        self.check_told([set(hands.waiting().values()), shelf.open_ones(), hands.close()], [{0}, [], None])

    def test_close_by_hand_and_twice(self):
        for plan, names in ((A, None), (("from", "d"), ["d"]), (("merged", ("from", "d"),
                ("merged", A, ("from", "e"))), ["e", "d"])):
            shelf = full_shelf(d=Source([4], then=ON, close_fault=True), e=Source([4], then=ON, close_fault=True))
            hands = Hands(plan, shelf, room=2)
            turns(hands, *spots_of(plan), *spots_of(plan))
            told = hands.told()
            if names is None:
                self.assertIs(hands.close(), None)
            else:
                with self.assertRaises(NotShut) as caught:
                    hands.close()
                self.check_told(caught.exception.found, names)
                caught.exception.found.clear()
            log = shelf.log()
            self.check_told([hands.not_shut(), shelf.open_ones(), hands.told(), hands.ending()],
                [names or [], [], told, None])
            self.check_told([set(hands.waiting().values()) - {0}, turns(hands, *spots_of(plan))],
                            [set(), [False] * len(spots_of(plan))])
            self.check_told([hands.close(), hands.run(spots_of(plan), 400), shelf.log()], [None, 0, log])

    def test_a_close_by_hand_tells_its_own_names_alone(self):
        shelf = full_shelf(d=Source([4], page=8, close_fault=True), e=Source([5], then=ON, close_fault=True))
        plan = ("behind", ("from", "d"), ("from", "e"))
        hands = Hands(plan, shelf)
        hands.run(spots_of(plan), 3)
        self.check_told([hands.not_shut(), answer(hands.close), hands.not_shut()],
            [["d"], ("not shut", ["e"]), ["d", "e"]])


class Runs(Case):
    def test_by_an_order_as_by_turns(self):
        for chance, plan, shelf in runs(500, seed=104):
            order = drawn_order(chance, spots_of(plan))
            before = shown(order)
            many = chance.choice((0, 1, 2, 5, 20))
            room = chance.randint(1, 4)
            one, other = Hands(plan, shelf.copied(), room=room), Hands(plan, shelf.copied(), room=room)
            did = 0
            going = True
            while going:
                going = False
                for spot in order:
                    if did < 2000 and len(one.told()) < many and one.ending() is None and one.turn(spot):
                        did += 1
                        going = True
            self.check_told([other.run(order, many), state(other), shown(order)], [did, state(one), before])

    def test_by_any_order_what_the_plain_reckoner_tells(self):
        for chance, plan, shelf in runs(300, seed=1042):
            many = chance.choice((0, 1, 3, 8))
            things, word = plain_told(plan, shelf, many)
            if word == "open":
                continue
            hands = Hands(plan, shelf, room=chance.randint(1, 4))
            # What asks for long is told by the runs behind the first one.
            while hands.run(drawn_order(chance, spots_of(plan)), many) == 2000:
                pass
            self.check_told(hands.told(), things)
            self.assertEqual(hands.ending() is None, word == "more")

    def test_each_spot_has_turns_as_often_as_it_stands_in_the_order(self):
        plan = ("turned", ON, A)
        # Until one thing is told: how many turns did anything, and how many things came of the leaf.
        for order, did, asked in (
                ([(0,), ()], 4, 2), ([(0,), (0,), ()], 5, 3), ([(0,), (0,), (0,), ()], 5, 3),
                ([(0,), (), ()], 3, 1), ([(), (0,), ()], 3, 1), ([(), (), (0,), (0,)], 4, 2)):
            for made in (list, tuple):
                hands = Hands(plan, full_shelf(), room=2)
                self.check_told([hands.run(made(order), 1), hands.told(), hands.asked()], [did, [2], {(0,): asked}])

    def test_the_only_spot_more_than_once(self):
        for order in ([()], [(), ()], ((), (), ()), [()] * 100):
            hands = Hands(("count", 1, 1, 3), Shelf())
            self.check_told([hands.run(order, 0), hands.told()], [0, []])
            self.check_told([hands.run(order, 2), hands.told(), hands.ending()], [2, [1, 2], None])
            self.check_told([hands.run(order=order, many=9), hands.told(), hands.ending()], [2, [1, 2, 3], ("over",)])

    def test_a_whole_going_is_through_all_of_the_order(self):
        # As many turns as there are spots do nothing, and more, but not a whole going.
        for order in ([(), (), (0,)], [*[()] * 99, (0,)], [(0,), *[()] * 98, (0,)], [*[(0,)] * 99, ()]):
            hands = Hands(("sums", COUNT), Shelf())
            hands.run(order, 3)
            self.check_told([hands.told(), hands.ending()], [[0, 1, 3], None])
            hands.close()
            self.check_told(hands.run(order, 9), 0)

    def test_so_many_things_in_all(self):
        hands = Hands(COUNT, Shelf())
        self.check_told([hands.run([()], 0), hands.told()], [0, []])
        self.check_told([hands.run([()], 2), hands.run([()], 2), hands.run(order=[()], many=3), hands.told()],
                        [2, 0, 1, [0, 1, 2]])
        self.check_told([hands.run([()], 400), len(hands.told()), hands.run([()], 400)], [397, 400, 0])

    def test_the_ending_and_behind_it(self):
        hands = Hands(("sums", ("count", 3, 0, 2)), Shelf())
        # Of each thing: it is asked for, taken, given; the end is asked for, taken, given.
        self.check_told([hands.run([(), (0,)], 400), hands.told(), hands.ending()], [9, [3, 6], ("over",)])
        self.check_told(hands.run([(0,), ()], 400), 0)

    def test_a_whole_going_that_did_nothing(self):
        hands = Hands(("sums", COUNT), Shelf())
        hands.close()
        self.check_told([hands.run([(), (0,)], 5), hands.told(), hands.ending()], [0, [], None])

    def test_2000_turns(self):
        plan = ("chosen", NEVER, COUNT)
        for order in ([(), (0,)], [(), (), (0,), (0,)], [*[()] * 50, *[(0,)] * 50]):
            hands = Hands(plan, Shelf())
            for at in range(1, 4):
                self.check_told([hands.run(order, 1), hands.asked(), hands.ending()], [2000, {(0,): 1000 * at}, None])

    def test_orders_that_are_none(self):
        plan = ("merged", A, ("sums", B))
        hands = Hands(plan, full_shelf())
        spots = [(), (0,), (1,), (1, 0)]
        before = state(hands)
        wrong = [
            [], (), spots[:3], [(), (0,), (1,), (1,)], [(), (0,), (1,), (0, 0)], [(1, 0), (1,), (1,), (0,), (0,)],
            [(), (False,), (1,), (1, 0)], [(), (0,), (True,), (1, 0)], [(), [0], (1,), (1, 0)], [(), (0,), (1,), None],
            [(), (0,), 1, (1, 0)], {(): 0, (0,): 1, (1,): 2, (1, 0): 3}, *[spots[:3] * 33],
            *[[*spots, other] for other in ((0, 0), (2,), (False,), (True, 0), [0], [], None, 0, "", spots)],
            *[(other, *spots) for other in ((1, 1), (True,), (1, False), [], False, {})], [spots], *odd_things(),
        ]
        for thing in wrong:
            for many in (5, -1, None, 401):
                self.check_refused(NoOrder, {"found": thing}, hands.run, thing, many)
            self.check_refused(NoOrder, {"found": thing}, hands.run, many=5, order=thing)
        for many in [*odd_things(), -1, 401, True]:
            if not is_whole(many, 0, 400):
                self.check_refused(NoNumber, {"found": many}, hands.run, spots, many)
                self.check_refused(NoNumber, {"found": many}, hands.run, many=many, order=spots)
        self.assertEqual(state(hands), before)
        for many, order in enumerate((spots[::-1], [*spots, (1, 0)], (*spots, ()), spots * 25), start=1):
            self.check_told([hands.run(order, many) > 0, len(hands.told())], [True, many])


class Copies(Case):
    def test_a_copy_goes_its_own_way_on_its_own_shelf(self):
        for chance, plan, shelf in runs(300, seed=107):
            hands = Hands(plan, shelf, room=chance.randint(1, 4))
            spots = spots_of(plan)
            for _ in range(chance.randint(0, 40)):
                hands.turn(chance.choice(spots))
            copy = hands.copied()
            before, log = state(hands), shown(shelf.log())
            self.assertEqual(state(copy), before)
            order = [chance.choice(spots) for _ in range(60)]
            did = turns(copy, *order)
            self.check_told([state(hands), shown(shelf.log())], [before, log])
            self.check_told([turns(hands, *order), state(hands)], [did, state(copy)])
            came = answer(hands.close)
            self.check_told([answer(copy.close), state(copy)], [came, state(hands)])

    def test_the_copy_of_closed_hands_and_of_hands_that_met_a_fault(self):
        shelf = full_shelf()
        hands = Hands(("sums", C), shelf)
        turns(hands, (0,), ())
        copy = hands.copied()
        self.check_told([turns(copy, ()), copy.ending(), hands.ending()], [[True], ("fault", "c", 0), None])
        hands.close()
        self.check_told(turns(hands.copied(), (), (0,)), [False, False])


class Told(Case):
    def test_lists_and_dicts_are_new_and_in_the_order_of_the_spots(self):
        plan = ("matched", (), 2, A, ("behind", ("count", 1, 1, 1), ("from", "d")))
        hands = Hands(plan, full_shelf(d=Source([2], close_fault=True)))
        hands.run(spots_of(plan), 1)
        self.check_told(list(hands.waiting()), [(0,), (1,), (1, 0), (1, 1)])
        self.check_told(list(hands.asked()), [(0,), (1, 0), (1, 1)])
        before = state(hands)
        for told in (hands.told(), hands.waiting(), hands.asked(), hands.not_shut()):
            self.assertTrue(told)
            told.clear()
        self.assertEqual(state(hands), before)


class Refused(Case):
    def test_what_hands_are_made_of(self):
        shelf = full_shelf()
        for thing in odd_things():
            if not is_plan(thing):
                for other, room in ((shelf, 1), (None, 5)):
                    self.check_refused(NoPlan, {"found": thing}, Hands, thing, other, room=room)
                self.check_refused(NoPlan, {"found": thing}, Hands, shelf=shelf, plan=thing)
            for plan, room in ((A, 1), (("from", "z"), True)):
                self.check_refused(NoShelf, {"found": thing}, Hands, plan, thing, room=room)
                self.check_refused(NoShelf, {"found": thing}, Hands, room=room, shelf=thing, plan=plan)
        for thing in [*odd_things(), 0, 5, -1, True]:
            if not is_whole(thing, 1, 4):
                for plan in (A, ("from", "z")):
                    self.check_refused(NoNumber, {"found": thing}, Hands, plan, shelf, room=thing)
        plan = ("behind", ("else", A, ("again", 1, "z")), ("merged", B, ("from", "y")))
        self.check_refused(NotThere, {"found": "z"}, Hands, plan, shelf, room=4)
        self.assertEqual(shelf.log(), [])
        with self.assertRaises(TypeError):
            Hands(A, shelf, 1)

    def test_what_is_no_spot(self):
        hands = Hands(("merged", A, ("sums", B)), full_shelf())
        before = state(hands)
        for thing in [*odd_things(), (2,), (0, 0), (1, 1), (1, 0, 0), (True,), (False,), [0], (0.0,), "0", (1, False)]:
            if shown(thing) not in (shown(()), shown((1,))):
                self.check_refused(NoSpot, {"found": thing}, hands.turn, thing)
                self.check_refused(NoSpot, {"found": thing}, hands.turn, spot=thing)
        self.assertEqual(state(hands), before)
        hands.close()
        self.check_refused(NoSpot, {"found": (2,)}, hands.turn, (2,))


if __name__ == "__main__":
    unittest.main()
