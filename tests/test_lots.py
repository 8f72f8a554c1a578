"""Points 91 to 94: runs by lots."""

import itertools
import unittest

from greatrows.errors import Fault, NoNumber, NoPlan, NoShelf, NotShut, NotThere, Over, TooMuch, Waits
from greatrows.lots import Lots
from greatrows.plans import is_plan, names_in
from greatrows.rows import row_of
from greatrows.shelves import Shelf
from greatrows.sources import Source
from greatrows.things import is_whole
from helpers import Case, answer, odd_things, shelf_of, shown
from made_plans import EDGES, PLANS
from made_runs import LATE, NEVER, ON, RowOfLots, by_things, loads, long_runs
from model import runs

A, B, C = ("from", "a"), ("from", "b"), ("from", "c")
COUNT = ("count", 0, 1, None)
SIZES = (1, 1, 2, 3, 5, 17, 60, 199, 200, 201, 400)


def state(lots):
    return shown([lots.not_shut(), lots.is_over(), lots.told_many(), lots.asked(), lots.readings()])


class AsRows(Case):
    def check_alike(self, chance, plan, shelf, lots, closing):
        """Lots tell what a row on a copy of the shelf tells; what came is told."""
        other = shelf.copied()
        row = row_of(plan, other)
        expected = RowOfLots(row)
        run = Lots(plan, shelf)
        came = {}
        ahead = [0, 0]
        for _ in range(lots):
            many = chance.choice(SIZES)
            told = answer(run.lot, many)
            self.check_told(told, expected.lot(many))
            came[told[0]] = came.get(told[0], 0) + 1
            if chance.random() < closing:
                self.check_told(answer(run.close), answer(row.close))
            self.check_told(state(run), shown(
                [row.not_shut(), row.is_over(), row.told_many(), row.asked(), row.readings()]))
            logs = [shelf.log()[ahead[0]:], other.log()[ahead[1]:]]
            ahead = [ahead[at] + len(log) for at, log in enumerate(logs)]
            (rows, calls), (other_rows, other_calls) = map(by_things, logs)
            self.assertEqual(rows, other_rows)
            self.assertEqual(loads(logs[0]), loads(logs[1]))
            self.assertLessEqual(calls, other_calls)
        return came

    def test_plans_of_all_kinds(self):
        kinds = set()
        for chance, plan, shelf in runs(1200, seed=91):
            kinds |= set(self.check_alike(chance, plan, shelf, 6, 0.03))
        self.assertEqual(sorted(kinds), ["fault", "much", "over", "thing", "waits"])

    def test_plans_that_wait(self):
        waits = 0
        for chance, plan, shelf in long_runs(130, seed=93):
            waits += self.check_alike(chance, plan, shelf, 8, 0.02).get("waits", 0)
        self.assertGreater(waits, 60)

    def test_every_word(self):
        for plan in [*PLANS, *EDGES]:
            shelf = shelf_of(**{name: Source([1, 2, 3], then=ON, page=4, faults={4: 1}) for name in names_in(plan)})
            expected = RowOfLots(row_of(plan, shelf.copied()))
            lots = Lots(plan, shelf)
            for many in (1, 5, 2, 3):
                self.check_told(answer(lots.lot, many), expected.lot(many))

    def test_each_opened_reading_is_shut_once(self):
        for chance, plan, shelf in runs(400, seed=94):
            lots = Lots(plan, shelf)
            for _ in range(chance.randint(0, 4)):
                answer(lots.lot, chance.choice(SIZES))
            answer(lots.close)
            readings = [row[1] for row in shelf.log() if row[0] == "open"]
            self.assertEqual(sorted(row[1] for row in shelf.log() if row[0] in ("shut", "badly")), readings)
            self.assertEqual(lots.not_shut(), [shelf.name_of(row[1]) for row in shelf.log() if row[0] == "badly"])

    def test_several_runs_on_one_shelf(self):
        shelf = shelf_of(a=Source([5, 6], then=ON, page=3))
        first, second = Lots(A, shelf), Lots(A, shelf)
        self.check_told([first.lot(2), second.lot(3), first.lot(2)], [[5, 6], [5, 6, 7], [7, 8]])
        self.check_told([first.readings(), second.readings()], [{(): 0}, {(): 1}])


class Sizes(Case):
    def test_lots_of_1_and_of_400(self):
        shelf = shelf_of(a=Source([0], then=ON, page=8))
        lots = Lots(("turned", ON, A), shelf)
        self.check_told([lots.lot(1), lots.lot(400), lots.lot(1)], [[1], list(range(2, 402)), [402]])
        self.check_told([lots.told_many(), lots.asked(), lots.is_over()], [402, {(0,): 402}, False])
        self.check_told([row[2:] for row in shelf.log() if row[0] == "ask"], [(0, 1), (1, 200), (201, 200), (401, 1)])
        self.check_told(Lots(COUNT, Shelf()).lot(many=400), list(range(400)))

    def test_at_the_end_ahead_of_it_and_behind(self):
        tail = [("end", 0), ("shut", 0)]
        for many, told, over in ((2, [7, 8], False), (3, [7, 8, 9], False), (4, [7, 8, 9], True),
                (400, [7, 8, 9], True)):
            shelf = shelf_of(a=Source([7, 8, 9], page=8))
            lots = Lots(A, shelf)
            self.check_told([lots.lot(many), lots.is_over()], [told, over])
            self.check_told(shelf.log(), [("open", 0, "a"), ("load", 0, 0), ("ask", 0, 0, len(told)),
                *(tail if over else [])])
            if many == 2:
                self.check_told(lots.lot(1), [9])
            for _ in range(2):
                self.check_refused(Over, {}, lots.lot, 1)
                self.assertIs(lots.is_over(), True)
            self.check_told([lots.told_many(), shelf.log()[-2:]], [3, tail])

    def test_counts_and_empty_rows(self):
        lots = Lots(("count", 5, -2, 3), Shelf())
        self.check_told([lots.lot(2), lots.lot(2)], [[5, 3], [1]])
        self.check_told([lots.asked(), lots.readings()], [{(): 3}, {}])
        for plan in (("count", 1, 1, 0), ("first", 0, A), ("from", "none")):
            lots = Lots(plan, shelf_of(a=Source([1]), none=Source([])))
            self.check_refused(Over, {}, lots.lot, 5)
            self.assertIs(lots.is_over(), True)

    def test_first_behind_whose_last_thing_it_is_not_over_yet(self):
        shelf = shelf_of(a=Source([1], then=ON, page=8))
        lots = Lots(("first", 3, A), shelf)
        self.check_told([lots.lot(3), lots.is_over(), shelf.open_ones()], [[1, 2, 3], False, []])
        self.check_told(shelf.log(), [("open", 0, "a"), ("load", 0, 0), ("ask", 0, 0, 3), ("shut", 0)])
        self.check_refused(Over, {}, lots.lot, 1)
        self.assertIs(lots.is_over(), True)
        lots = Lots(("first", 3, A), shelf)
        self.check_told([lots.lot(4), lots.is_over()], [[1, 2, 3], True])

    def test_what_lies_ready_is_told_at_the_next_lot(self):
        lots = Lots(("flat", ("windows", 3, COUNT)), Shelf())
        self.check_told([lots.lot(2), lots.asked(), lots.lot(2), lots.asked()],
                        [[0, 1], {(0, 0): 3}, [2, 1], {(0, 0): 4}])


class Calls(Case):
    def check_log(self, plan, shelf, many, things, *log):
        self.check_told(Lots(plan, shelf).lot(many), things)
        self.check_told(shelf.log(), list(log))

    def test_a_machine_that_is_sure_of_more_asks(self):
        begin = [("open", 0, "a"), ("load", 0, 0)]
        for plan, things, asks in (
                (A, [0, 1, 2, 3], 4), (("turned", ON, A), [1, 2, 3, 4], 4), (("skip", 3, A), [3, 4, 5, 6], 7),
                (("windows", 3, A), [(at, at + 1, at + 2) for at in range(4)], 6), (("sums", A), [0, 1, 3, 6], 4),
                (("behind", A, B), [0, 1, 2, 3], 4), (("else", A, B), [0, 1, 2, 3], 4),
                (("sums", ("skip", 1, ("turned", ON, A))), [2, 5, 9, 14], 5)):
            self.check_log(plan, shelf_of(a=Source([0], then=ON, page=8), b=Source([])), 4, things, *begin,
                ("ask", 0, 0, asks))
        for plan, things, asks in (
                (("while", (((), "below", 9, True),), A), [0, 1], 2), (("until", NEVER, A), [0, 1], 2),
                (("groups", (("rest", 9),), A), [(0,), (1,)], 3), (("flat", A), [0, 1], 2)):
            self.check_log(plan, shelf_of(a=Source([0], then=ON, page=8)), 2, things, *begin,
                           *[("ask", 0, at, 1) for at in range(asks)])

    def test_what_lacks_of_a_lot_is_asked_for(self):
        even = ("chosen", (((), "parts", 2, True),), A)
        self.check_log(even, shelf_of(a=Source([0], then=ON, page=8)), 4, [0, 2, 4, 6], ("open", 0, "a"),
            ("load", 0, 0),
                       ("ask", 0, 0, 4), ("ask", 0, 4, 2), ("ask", 0, 6, 1))

    def test_across_pages(self):
        self.check_log(A, shelf_of(a=Source([0], then=ON, page=3)), 7, list(range(7)), ("open", 0, "a"), ("load", 0, 0),
                       ("load", 0, 1), ("load", 0, 2), ("ask", 0, 0, 7))
        shelf = shelf_of(a=Source([0], then=ON, page=3))
        lots = Lots(A, shelf)
        for many in (2, 1, 4):
            lots.lot(many)
        self.check_told(shelf.log()[2:], [("ask", 0, 0, 2), ("ask", 0, 2, 1), ("load", 0, 1), ("load", 0, 2),
            ("ask", 0, 3, 4)])

    def test_ahead_of_the_end_of_what_is_sure(self):
        shelf = shelf_of(a=Source([1, 2], page=8), b=Source([3], page=8))
        self.check_log(("behind", A, B), shelf, 9, [1, 2, 3], ("open", 0, "a"), ("load", 0, 0), ("ask", 0, 0, 2),
                       ("end", 0), ("shut", 0), ("open", 1, "b"), ("load", 1, 0), ("ask", 1, 0, 1), ("end", 1),
                       ("shut", 1))

    def test_needless_inputs_are_shut_at_once_ahead_of_the_told_lot(self):
        shelf = shelf_of(a=Source([1], then=ON, page=8), b=Source([7], then=ON, page=8), c=Source([0], page=8))
        self.check_log(
            ("behind", ("first", 2, A), ("first", 1, B)), shelf, 3, [1, 2, 7], ("open", 0, "a"), ("load", 0, 0),
            ("ask", 0, 0, 2), ("shut", 0), ("open", 1, "b"), ("load", 1, 0), ("ask", 1, 0, 1), ("shut", 1))
        shelf = shelf_of(a=Source([1], then=ON, page=8), c=Source([0], page=8))
        self.check_log(("beside", A, C), shelf, 3, [(1, 0)], ("open", 0, "a"), ("load", 0, 0), ("ask", 0, 0, 1),
                       ("open", 1, "c"), ("load", 1, 0), ("ask", 1, 0, 1), ("ask", 0, 1, 1), ("end", 1), ("shut", 1),
                       ("shut", 0))


class Faults(Case):
    def test_a_fault_waits_where_things_are_ahead_of_it(self):
        shelf = shelf_of(a=Source([1, 2, 3], faults={2: None}, page=8))
        lots = Lots(A, shelf)
        self.check_told([lots.lot(3), lots.is_over(), shelf.open_ones(), lots.told_many()], [[1, 2], True, [], 2])
        log = shown(shelf.log())
        for wrong in (0, 401, True, None):
            self.check_refused(NoNumber, {"found": wrong}, lots.lot, wrong)
        self.check_refused(Fault, {"name": "a", "at": 2}, lots.lot, 1)
        self.check_refused(Over, {}, lots.lot, 1)
        for wrong in (0, 401, True, None):
            self.check_refused(NoNumber, {"found": wrong}, lots.lot, wrong)
        self.check_told([shown(shelf.log()), lots.asked()], [log, {(): 2}])

    def test_a_fault_goes_out_at_once_where_nothing_is_ahead_of_it(self):
        for ahead in (0, 2):
            shelf = shelf_of(a=Source([1, 2, 3], faults={ahead: None}, page=8))
            lots = Lots(A, shelf)
            if ahead:
                self.check_told([lots.lot(2), lots.is_over()], [[1, 2], False])
            self.check_refused(Fault, {"name": "a", "at": ahead}, lots.lot, 3)
            self.check_told([lots.is_over(), shelf.log()[-2:]], [True, [("fault", 0, ahead), ("shut", 0)]])
            self.check_refused(Over, {}, lots.lot, 3)

    def test_too_much(self):
        plan = ("matched", (), 2, A, ("from", "b"))
        shelf = shelf_of(a=Source([1]), b=Source([1, 2, 3]))
        lots = Lots(plan, shelf)
        self.check_refused(TooMuch, {"many": 2}, lots.lot, 5)
        self.check_told([lots.is_over(), lots.asked(), shelf.open_ones()], [True, {(0,): 0, (1,): 3}, []])
        lots = Lots(("behind", ("count", 9, 0, 2), plan), shelf)
        self.check_told([lots.lot(5), lots.is_over()], [[9, 9], True])
        self.check_refused(TooMuch, {"many": 2}, lots.lot, 5)
        self.check_refused(Over, {}, lots.lot, 5)
        self.check_told(Lots(("else", plan, COUNT), shelf).lot(2), [0, 1])

    def test_again_at_its_first_thing_and_within_a_lot(self):
        for at, tries in itertools.product((0, 2), (1, 2, 5)):
            begin = [("open", 0, "a"), ("load", 0, 0), *([("ask", 0, 0, at)] if at else [])]
            shelf = shelf_of(a=Source([1, 2, 3, 4], faults={at: tries}, page=8))
            lots = Lots(("again", tries, "a"), shelf)
            self.check_told(lots.lot(4), [1, 2, 3, 4])
            self.check_told(shelf.log(), [*begin, *[("fault", 0, at)] * tries, ("ask", 0, at, 4 - at)])
            shelf = shelf_of(a=Source([1, 2, 3, 4], faults={at: tries + 1}, page=8))
            lots = Lots(("again", tries, "a"), shelf)
            if at:
                self.check_told(lots.lot(4), [1, 2])
            self.check_refused(Fault, {"name": "a", "at": at}, lots.lot, 4)
            self.check_told(shelf.log(), [*begin, *[("fault", 0, at)] * (tries + 1), ("shut", 0)])

    def test_tries_are_anew_for_each_thing(self):
        shelf = shelf_of(a=Source([1, 2, 3, 4], faults={0: 2, 1: 2, 3: 2}, page=8))
        self.check_told(Lots(("again", 2, "a"), shelf).lot(4), [1, 2, 3, 4])

    def test_else_goes_on_within_a_lot(self):
        shelf = shelf_of(a=Source([1, 2], faults={1: None}, page=8), b=Source([5], then=ON, page=8))
        self.check_told(Lots(("else", A, B), shelf).lot(3), [1, 5, 6])
        self.check_told(shelf.log(), [("open", 0, "a"), ("load", 0, 0), ("ask", 0, 0, 1), ("fault", 0, 1), ("shut", 0),
                                      ("open", 1, "b"), ("load", 1, 0), ("ask", 1, 0, 2)])


class WaitsOf200(Case):
    def test_just_where_the_asks_of_a_row_would_be_refused(self):
        for least in (198, 199, 200, 201):
            for leaf, shelf in ((COUNT, Shelf()), (A, shelf_of(a=Source([0], then=ON, page=8)))):
                plan = ("chosen", (((), "below", least, False),), leaf)
                lots = Lots(plan, shelf)
                if least >= 200:
                    self.check_refused(Waits, {"many": 200}, lots.lot, 2)
                    self.check_told([lots.is_over(), lots.told_many(), lots.asked()], [False, 0, {(0,): 200}])
                self.check_told(lots.lot(2), [least, least + 1])
                self.check_told(lots.asked(), {(0,): least + 2})

    def test_amid_a_lot_and_in_the_lot_behind_it(self):
        # It chooses 0, then 250 and 251, then none below 500.
        tests = (((("rest", 250),), "below", 2, True), ((), "is", 1, False))
        lots = Lots(("chosen", tests, COUNT), Shelf())
        self.check_told([lots.lot(3), lots.asked(), lots.is_over()], [[0], {(0,): 201}, False])
        self.check_refused(NoNumber, {"found": 0}, lots.lot, 0)
        self.check_refused(Waits, {"many": 200}, lots.lot, 400)
        self.check_told([lots.lot(2), lots.asked()], [[250, 251], {(0,): 252}])
        self.check_refused(Waits, {"many": 200}, lots.lot, 2)
        self.check_told([lots.asked(), lots.lot(1), lots.asked()], [{(0,): 452}, [500], {(0,): 501}])

    def test_the_asks_behind_the_thing_told_last_count(self):
        # A lot of 200 things is asked for; 5 comes of the sixth, and 194 asks behind that one count.
        shelf = shelf_of(a=Source([0], then=ON, page=8))
        lots = Lots(("chosen", (((("rest", 200),), "is", 5, True),), A), shelf)
        self.check_told(lots.lot(400), [5 + 200 * at for at in range(400)])
        asks = [row[2:] for row in shelf.log() if row[0] == "ask"]
        self.check_told(asks[:4], [(0, 200), (200, 6), (206, 200), (406, 200)])
        lots = Lots(("chosen", (((("rest", 201),), "is", 5, True),), A), shelf)
        self.check_told(lots.lot(400), [5])
        self.check_refused(Waits, {"many": 200}, lots.lot, 400)
        self.check_told(lots.asked(), {(0,): 206})

    def test_no_lot_of_a_leaf_is_greater_than_what_is_left(self):
        for _, plan, shelf in long_runs(50, seed=200):
            lots = Lots(plan, shelf)
            for _ in range(3):
                answer(lots.lot, 400)
            self.assertLessEqual(max([row[3] for row in shelf.log() if row[0] == "ask"], default=0), 200)

    def test_nothing_is_opened_or_closed_for_it(self):
        plan = ("behind", ("chosen", NEVER, ("first", 60, COUNT)), ("chosen", NEVER, ("behind", A, B)))
        shelf = shelf_of(a=Source([0] * 40, then=None, page=8), b=Source([0], then=ON, page=8))
        lots = Lots(plan, shelf)
        self.check_refused(Waits, {"many": 200}, lots.lot, 1)
        # 60 numbers, behind which the first part is over, 40 things, an end, and 99 things of b.
        self.check_told([lots.asked(), shelf.open_ones()], [{(0, 0, 0): 60, (1, 0, 0): 40, (1, 0, 1): 99}, [1]])

    def test_tries_go_on_behind_it(self):
        for faults, came in ((3, ("thing", [199, 200])), (4, ("fault", "a", 199))):
            shelf = shelf_of(a=Source([0], then=ON, faults={199: faults}, page=8))
            lots = Lots(("chosen", LATE[2], ("again", 3, "a")), shelf)
            self.check_refused(Waits, {"many": 200}, lots.lot, 2)
            self.check_told(shelf.log()[-1], ("fault", 0, 199))
            self.check_told(answer(lots.lot, 2), came)
            self.check_told(len([row for row in shelf.log() if row[0] == "fault"]), faults)


class Closed(Case):
    def sources(self):
        return {"a": Source([1], then=ON, page=8, close_fault=True), "b": Source([2], then=ON, page=8),
                "c": Source([3], then=ON, page=8, close_fault=True), "d": Source([4], page=8, close_fault=True)}

    def test_ahead_of_the_first_lot_and_twice(self):
        shelf = shelf_of(**self.sources())
        lots = Lots(A, shelf)
        self.check_told([lots.close(), shelf.log(), lots.is_over(), lots.close()], [None, [], True, None])
        self.check_refused(Over, {}, lots.lot, 1)

    def test_amid_one_and_several_closings_fault(self):
        for plan, names in ((A, ["a"]), (B, None), (("merged", A, ("merged", C, B)), ["c", "a"])):
            shelf = shelf_of(**self.sources())
            lots = Lots(plan, shelf)
            lots.lot(3)
            self.check_told(answer(lots.close), ("not shut", names) if names else ("thing", None))
            self.check_told([shelf.open_ones(), lots.is_over(), lots.not_shut()], [[], True, names or []])
            log = len(shelf.log())
            self.check_told([lots.close(), len(shelf.log())], [None, log])
            self.check_refused(Over, {}, lots.lot, 1)
        self.check_told(shelf.log()[-3:], [("shut", 2), ("badly", 1), ("badly", 0)])

    def test_a_close_by_hand_tells_its_own_names_alone(self):
        lots = Lots(("behind", ("first", 1, C), A), shelf_of(**self.sources()))
        self.check_told([lots.lot(2), lots.not_shut()], [[3, 1], ["c"]])
        with self.assertRaises(NotShut) as caught:
            lots.close()
        self.check_told([caught.exception.found, lots.not_shut()], [["a"], ["c", "a"]])
        caught.exception.found.clear()
        lots.not_shut().clear()
        self.check_told(lots.not_shut(), ["c", "a"])

    def test_closings_that_fault_at_the_end_and_at_a_fault(self):
        shelf = shelf_of(**self.sources(), e=Source([7], faults={0: 1}))
        lots = Lots(("behind", ("from", "d"), ("from", "d")), shelf)
        self.check_told([lots.lot(9), lots.not_shut(), lots.close()], [[4, 4], ["d", "d"], None])
        lots = Lots(("beside", ("merged", A, C), ("from", "e")), shelf)
        self.check_refused(Fault, {"name": "e", "at": 0}, lots.lot, 9)
        self.check_told([lots.not_shut(), lots.close()], [["c", "a"], None])

    def test_a_refusal_that_waits_goes_out_behind_a_close(self):
        waits = ("behind", ("count", 1, 0, 1), ("chosen", NEVER, B))
        bad = Source([1], then=ON, faults={1: 1})
        for plan, error, fields in ((waits, Waits, {"many": 200}), (("from", "e"), Fault, {"name": "e", "at": 1}),
                                    (("count", 1, 1, 1), Over, {})):
            shelf = shelf_of(**self.sources(), e=bad)
            lots = Lots(plan, shelf)
            self.check_told([lots.lot(9), lots.is_over()], [[1], error is not Waits])
            self.check_told([lots.close(), lots.is_over(), shelf.open_ones()], [None, True, []])
            self.check_refused(NoNumber, {"found": 401}, lots.lot, 401)
            self.check_refused(error, fields, lots.lot, 1)
            self.check_refused(Over, {}, lots.lot, 1)


class Told(Case):
    def test_dicts_and_lists_are_new_and_in_the_order_of_the_spots(self):
        plan = ("matched", (), 2, A, ("behind", ("count", 1, 1, 1), B))
        lots = Lots(plan, shelf_of(a=Source([1]), b=Source([2], close_fault=True)))
        lots.lot(1).clear()
        self.check_told(list(lots.asked().items()), [((0,), 1), ((1, 0), 1), ((1, 1), 1)])
        self.check_told(list(lots.readings().items()), [((0,), 1), ((1, 1), 0)])
        before = state(lots)
        for told in (lots.asked(), lots.readings(), lots.not_shut()):
            told.clear()
        self.assertEqual(state(lots), before)

    def test_asking_changes_nothing(self):
        for chance, plan, shelf in runs(60, seed=9):
            lots = Lots(plan, shelf)
            answer(lots.lot, chance.choice(SIZES))
            log = shown(shelf.log())
            self.assertEqual(state(lots), state(lots))
            self.assertEqual(shown(shelf.log()), log)


class Refused(Case):
    def test_what_is_no_plan_or_no_shelf(self):
        shelf = shelf_of(a=Source([1]))
        for thing in odd_things():
            if not is_plan(thing):
                for other in (shelf, None, Shelf()):
                    self.check_refused(NoPlan, {"found": thing}, Lots, thing, other)
                self.check_refused(NoPlan, {"found": thing}, Lots, shelf=shelf, plan=thing)
            for plan in (A, B):
                self.check_refused(NoShelf, {"found": thing}, Lots, plan, thing)
                self.check_refused(NoShelf, {"found": thing}, Lots, shelf=thing, plan=plan)
        plan = ("behind", ("else", A, ("again", 1, "c")), ("merged", B, C))
        self.check_refused(NotThere, {"found": "c"}, Lots, plan, shelf)
        self.check_refused(NotThere, {"found": "a"}, Lots, plan, Shelf())
        self.assertEqual(shelf.log(), [])

    def test_what_is_no_number_of_things(self):
        shelf = shelf_of(a=Source([1], then=ON))
        lots = Lots(shelf=shelf, plan=A)
        for _ in range(2):
            before = state(lots)
            for thing in [*odd_things(), 401, 0, -1, True]:
                if not is_whole(thing, 1, 400):
                    self.check_refused(NoNumber, {"found": thing}, lots.lot, thing)
                    self.check_refused(NoNumber, {"found": thing}, lots.lot, many=thing)
            self.assertEqual(state(lots), before)
            lots.lot(1)


if __name__ == "__main__":
    unittest.main()
