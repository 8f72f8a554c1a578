"""Points 61 to 68: rows, asked one by one."""

import unittest

from greatrows.errors import Fault, NoPlan, NoShelf, NotShut, NotThere, Over, Thrown, Waits
from greatrows.plans import is_plan, names_in, nodes_in
from greatrows.rows import MOST_ASKS, Row, row_of
from greatrows.shelves import Shelf
from greatrows.sources import Source
from helpers import Case, answer, odd_things, shelf_of, shown
from made_plans import EDGES, PLANS
from model import Run, runs

ON = (("add", 1),)
BIG = 10 ** 29
NEVER = (((), "below", -1, True),)
ODD = (((("rest", 2),), "is", 1, True),)


def things_of(row, most=60):
    """The things that a row tells, and how it ends."""
    things = []
    while len(things) < most:
        came = answer(row.ask)
        if came[0] != "thing":
            return things, came
        things.append(came[1])
    return things, None


def behind_counts(plan):
    """The plan behind counts that are asked 183 times, their ends counted."""
    for _ in range(3):
        plan = ("behind", ("count", 0, 0, 60), plan)
    return plan


def state(row):
    return shown([row.not_shut(), row.is_over(), row.told_many(), row.held(), row.asked(), row.readings(), row.rest()])


class RowCase(Case):
    def check_run(self, plan, shelf, things, ending, *log):
        """The row tells these things and ends so, and the shelf's log is this one."""
        row = row_of(plan, shelf)
        self.check_told(things_of(row), (things, ending))
        self.check_told(shelf.log(), list(log))
        return row


class Whole(RowCase):
    def test_as_the_document_tells_of_plans_of_all_kinds(self):
        came = {}
        for chance, plan, shelf in runs(2500, seed=61):
            other = shelf.copied()
            row, run = row_of(plan, shelf), Run(plan, other)
            for _ in range(25):
                kind = self.one_step(chance, row, run)
                came[kind] = came.get(kind, 0) + 1
                if kind == "waits":
                    break
                self.check_told(shelf.log(), other.log())
                self.check_told(row.not_shut(), run.not_shut)
                self.check_told(list(row.asked().items()), sorted(run.asked.items()))
                self.check_told(list(row.readings().items()), sorted(run.readings.items()))
                self.assertIs(row.is_over(), run.is_over)
            else:
                self.check_told(row.rest(), run.rest)
            if row.is_over():
                self.assertEqual(shelf.open_ones(), [])
        self.assertEqual(sorted(came), ["close", "fault", "much", "over", "thing", "thrown", "waits"])

    def one_step(self, chance, row, run):
        deed = chance.random()
        if deed < 0.02:
            names = run.close()
            self.check_told(answer(row.close), ("not shut", names) if names else ("thing", None))
            return "close"
        word = [None] if deed < 0.08 else []
        many = row.told_many()
        told = answer(row.throw, *word) if word else answer(row.ask)
        if told[0] != "waits":
            self.check_told(told, run.ask(word))
            self.assertEqual(row.told_many(), many + (told[0] == "thing"))
        return told[0]

    def test_each_opened_reading_is_shut_once(self):
        for chance, plan, shelf in runs(600, seed=68):
            row = row_of(plan, shelf)
            for _ in range(chance.randint(0, 30)):
                answer(row.ask)
            answer(row.close)
            readings = [row[1] for row in shelf.log() if row[0] == "open"]
            self.assertEqual(sorted(row[1] for row in shelf.log() if row[0] in ("shut", "badly")), readings)
            self.assertEqual(sorted(row.readings().values()), readings)
            self.assertEqual(len(row.not_shut()), len([each for each in shelf.log() if each[0] == "badly"]))

    def test_several_rows_on_one_shelf_tell_alike(self):
        for chance, plan, shelf in runs(150, seed=62):
            alone = things_of(row_of(plan, shelf.copied()), 20)
            rows = [row_of(plan, shelf) for _ in range(3)]
            told = [[], [], []]
            for _ in range(400):
                at = chance.randrange(3)
                if len(told[at]) < 20:
                    told[at].append(answer(rows[at].ask))
            for row, came in zip(rows, told):
                things = [each[1] for each in came if each[0] == "thing"]
                self.check_told(things[:len(alone[0])], alone[0][:len(things)])
                self.assertEqual([shelf.name_of(reading) for reading in row.readings().values()],
                                 [self.name_at(plan, spot) for spot in row.readings()])
            opened = [reading for row in rows for reading in row.readings().values()]
            self.assertEqual(sorted(opened), list(range(len(opened))))

    @staticmethod
    def name_at(plan, spot):
        for at in spot:
            plan = plan[len(plan) - 2:][at] if plan[0] in ("behind", "beside", "merged", "matched", "else") else plan[-1]
        return plan[-1]

    def test_plans_of_one_tuple_and_of_twelve(self):
        shelf = shelf_of(a=Source([3, 1], then=ON), b=Source([5]), c=Source([]), d=Source([8, 9]))
        self.check_told(things_of(row_of(("from", "a"), shelf), 4), ([3, 1, 2, 3], None))
        plan = ("turned", (), ("flat", ("windows", 2, ("turned", ON, ("chosen", ODD, (
            "merged", ("first", 3, ("from", "a")), ("behind", ("from", "d"), ("sums", ("from", "b")))))))))
        self.assertEqual(nodes_in(plan), 12)
        self.check_told(things_of(row_of(plan, shelf)), ([4, 2, 2, 10, 10, 6], ("over",)))

    def test_every_word_runs(self):
        for plan in [*PLANS, *EDGES]:
            shelf = shelf_of(**{name: Source([1, 2, 3], then=ON) for name in names_in(plan)})
            row = row_of(plan, shelf)
            run = Run(plan, shelf.copied())
            for _ in range(12):
                came = answer(row.ask)
                if came[0] == "waits":
                    break
                self.check_told(came, run.ask())


class Refused(RowCase):
    def test_what_is_no_plan_or_no_shelf(self):
        shelf = shelf_of(a=Source([1]))
        for thing in odd_things():
            if not is_plan(thing):
                for other in (shelf, None, Shelf()):
                    self.check_refused(NoPlan, {"found": thing}, row_of, thing, other)
                self.check_refused(NoPlan, {"found": thing}, row_of, shelf=shelf, plan=thing)
            for plan in (("from", "a"), ("from", "b")):
                self.check_refused(NoShelf, {"found": thing}, row_of, plan, thing)
                self.check_refused(NoShelf, {"found": thing}, row_of, shelf=thing, plan=plan)
        self.assertEqual(shelf.log(), [])

    def test_the_first_name_that_the_shelf_lacks(self):
        shelf = shelf_of(a=Source([1]))
        plan = ("behind", ("else", ("from", "a"), ("again", 1, "c")), ("merged", ("from", "b"), ("from", "c")))
        self.check_refused(NotThere, {"found": "c"}, row_of, plan, shelf)
        self.check_refused(NotThere, {"found": "b"}, row_of, plan[2], shelf)
        self.check_refused(NotThere, {"found": "a"}, row_of, plan, Shelf())
        self.assertEqual(shelf.log(), [])
        self.assertIs(row_of(shelf=shelf, plan=("from", "a")).__class__, Row)

    def test_a_name_that_is_put_up_later_was_lacking(self):
        shelf = Shelf()
        self.check_refused(NotThere, {"found": "a"}, row_of, ("from", "a"), shelf)
        shelf.put_up("a", Source([1]))
        self.check_told(row_of(("from", "a"), shelf).ask(), 1)

    def test_nothing_is_opened_ahead_of_the_ask_that_needs_it(self):
        shelf = shelf_of(a=Source([1]), b=Source([2]))
        row = row_of(("behind", ("from", "a"), ("from", "b")), shelf)
        self.check_told([shelf.log(), row.readings(), row.asked()], [[], {}, {(0,): 0, (1,): 0}])
        row.ask()
        self.check_told(row.readings(), {(0,): 0})
        row.ask()
        self.check_told(row.readings(), {(0,): 0, (1,): 1})


class Leaves(RowCase):
    def test_a_source_is_shut_at_its_end_at_once(self):
        self.check_run(
            ("behind", ("from", "a"), ("from", "b")), shelf_of(a=Source([4], page=2), b=Source([5, 6], page=2)),
            [4, 5, 6], ("over",),
            ("open", 0, "a"), ("load", 0, 0), ("ask", 0, 0, 1), ("end", 0), ("shut", 0),
            ("open", 1, "b"), ("load", 1, 0), ("ask", 1, 0, 1), ("ask", 1, 1, 1), ("end", 1), ("shut", 1))

    def test_counts_open_nothing(self):
        for plan, things, ending in (
                (("count", 5, -2, 3), [5, 3, 1], ("over",)), (("count", 5, 2, 0), [], ("over",)),
                (("count", 0, 0, None), [0] * 60, None), (("count", BIG, BIG, 60), [BIG * at for at in range(1, 61)], None)):
            row = self.check_run(plan, Shelf(), things, ending)
            self.check_told([row.asked(), row.readings(), row.rest()], [{(): row.told_many()}, {}, None])

    def test_a_fault_stands_at_its_thing(self):
        row = self.check_run(
            ("from", "a"), shelf_of(a=Source([1, 2, 3], faults={1: 1}, page=3)), [1], ("fault", "a", 1),
            ("open", 0, "a"), ("load", 0, 0), ("ask", 0, 0, 1), ("fault", 0, 1), ("shut", 0))
        self.check_told([row.is_over(), row.told_many(), row.asked()], [True, 1, {(): 1}])
        self.check_refused(Over, {}, row.ask)

    def test_again_asks_at_most_so_often_for_each_thing_anew(self):
        for tries in (1, 2, 5):
            source = Source([1, 2, 3], faults={0: tries, 2: tries}, page=8)
            faults = [("fault", 0, 0)] * tries
            self.check_run(
                ("again", tries, "a"), shelf_of(a=source), [1, 2, 3], ("over",),
                ("open", 0, "a"), ("load", 0, 0), *faults, ("ask", 0, 0, 1), ("ask", 0, 1, 1),
                *[("fault", 0, 2)] * tries, ("ask", 0, 2, 1), ("end", 0), ("shut", 0))
            for many in (tries + 1, None):
                source = Source([1, 2, 3], faults={0: tries, 2: many}, page=8)
                self.check_run(
                    ("again", tries, "a"), shelf_of(a=source), [1, 2], ("fault", "a", 2),
                    ("open", 0, "a"), ("load", 0, 0), *faults, ("ask", 0, 0, 1), ("ask", 0, 1, 1),
                    *[("fault", 0, 2)] * (tries + 1), ("shut", 0))

    def test_two_leaves_of_one_name_have_a_reading_each(self):
        row = self.check_run(
            ("beside", ("from", "a"), ("again", 1, "a")), shelf_of(a=Source([7], faults={0: 1}, page=1)),
            [], ("fault", "a", 0), ("open", 0, "a"), ("load", 0, 0), ("fault", 0, 0), ("shut", 0))
        self.check_told(row.readings(), {(0,): 0})
        self.check_run(
            ("beside", ("again", 1, "a"), ("again", 1, "a")), shelf_of(a=Source([7], faults={0: 1}, page=1)),
            [(7, 7)], ("over",),
            ("open", 0, "a"), ("load", 0, 0), ("fault", 0, 0), ("ask", 0, 0, 1),
            ("open", 1, "a"), ("load", 1, 0), ("fault", 1, 0), ("ask", 1, 0, 1),
            ("end", 0), ("shut", 0), ("shut", 1))


class Needless(RowCase):
    def test_what_first_needs_no_more_is_closed_ahead_of_all_else(self):
        shelf = shelf_of(a=Source([1], then=ON, page=8), b=Source([2], then=ON, page=8))
        row = row_of(("first", 2, ("merged", ("from", "a"), ("from", "b"))), shelf)
        self.check_told(row.ask(), 1)
        self.check_told(shelf.open_ones(), [0, 1])
        self.check_told(row.ask(), 2)
        self.check_told([shelf.open_ones(), shelf.log()[-2:], row.is_over()], [[], [("shut", 1), ("shut", 0)], False])
        many = len(shelf.log())
        self.check_refused(Over, {}, row.ask)
        self.check_told([len(shelf.log()), row.is_over()], [many, True])

    def test_first_0_asks_and_opens_nothing(self):
        row = self.check_run(("first", 0, ("from", "a")), shelf_of(a=Source([1])), [], ("over",))
        self.check_told([row.asked(), row.readings()], [{(0,): 0}, {}])

    def test_first_60(self):
        row = self.check_run(
            ("first", 60, ("from", "a")), shelf_of(a=Source(list(range(40)), then=ON, page=8)), list(range(60)), None,
            ("open", 0, "a"), *[row for at in range(60) for row in (
                [("load", 0, at // 8)] if at % 8 == 0 else []) + [("ask", 0, at, 1)]], ("shut", 0))
        self.assertIs(row.is_over(), False)
        self.check_told(things_of(row), ([], ("over",)))

    def test_skip_60(self):
        row = row_of(("skip", 60, ("from", "a")), shelf_of(a=Source([0], then=ON)))
        self.check_told([row.ask(), row.asked()], [60, {(0,): 61}])

    def test_while_and_until(self):
        source = Source([3, 1, 4, 5], page=8)
        self.check_run(
            ("while", ODD, ("from", "a")), shelf_of(a=source), [3, 1], ("over",), ("open", 0, "a"), ("load", 0, 0),
            ("ask", 0, 0, 1), ("ask", 0, 1, 1), ("ask", 0, 2, 1), ("shut", 0))
        shelf = shelf_of(a=Source([4, 2, 1, 5], page=8))
        row = row_of(("until", ODD, ("from", "a")), shelf)
        self.check_told([row.ask(), row.ask(), row.ask(), shelf.open_ones()], [4, 2, 1, []])
        self.check_told([things_of(row), row.asked()], [([], ("over",)), {(0,): 3}])

    def test_beside_closes_the_other_one(self):
        self.check_run(
            ("beside", ("from", "a"), ("from", "b")), shelf_of(a=Source([1], page=8), b=Source([2], then=ON, page=8)),
            [(1, 2)], ("over",), ("open", 0, "a"), ("load", 0, 0), ("ask", 0, 0, 1), ("open", 1, "b"), ("load", 1, 0),
            ("ask", 1, 0, 1), ("end", 0), ("shut", 0), ("shut", 1))
        row = self.check_run(
            ("beside", ("from", "a"), ("from", "b")), shelf_of(a=Source([1], then=ON, page=8), b=Source([])),
            [], ("over",), ("open", 0, "a"), ("load", 0, 0), ("ask", 0, 0, 1), ("open", 1, "b"), ("end", 1), ("shut", 1),
            ("shut", 0))
        self.check_told([row.rest(), row.held(), row.asked()], [1, 1, {(0,): 1, (1,): 0}])

    def test_matched_with_nothing_kept_asks_nothing_of_0(self):
        row = self.check_run(
            ("matched", (), 3, ("from", "a"), ("from", "b")), shelf_of(a=Source([1]), b=Source([])), [], ("over",),
            ("open", 0, "b"), ("end", 0), ("shut", 0))
        self.check_told(row.readings(), {(1,): 0})

    def test_a_part_is_closed_within_a_row_that_goes_on(self):
        plan = ("behind", ("until", ODD, ("merged", ("from", "a"), ("from", "b"))), ("from", "c"))
        shelf = shelf_of(a=Source([0, 2], then=ON, page=8), b=Source([1], then=ON, page=8), c=Source([9], page=8))
        self.check_run(
            plan, shelf, [0, 1, 9], ("over",),
            ("open", 0, "a"), ("load", 0, 0), ("ask", 0, 0, 1), ("open", 1, "b"), ("load", 1, 0), ("ask", 1, 0, 1),
            ("ask", 0, 1, 1), ("shut", 1), ("shut", 0),
            ("open", 2, "c"), ("load", 2, 0), ("ask", 2, 0, 1), ("end", 2), ("shut", 2))

    def test_only_what_lies_beneath_is_closed(self):
        plan = ("beside", ("from", "a"), ("first", 1, ("from", "b")))
        shelf = shelf_of(a=Source([0], then=ON), b=Source([1], then=ON))
        row = row_of(plan, shelf)
        row.ask()
        self.check_told(shelf.open_ones(), [0])


class Faults(RowCase):
    def test_else_at_a_fault_of_0(self):
        shelf = shelf_of(a=Source([1, 2], faults={1: None}, page=8), b=Source([5], page=8))
        self.check_run(
            ("else", ("from", "a"), ("from", "b")), shelf, [1, 5], ("over",),
            ("open", 0, "a"), ("load", 0, 0), ("ask", 0, 0, 1), ("fault", 0, 1), ("shut", 0),
            ("open", 1, "b"), ("load", 1, 0), ("ask", 1, 0, 1), ("end", 1), ("shut", 1))

    def test_else_at_a_fault_of_both(self):
        source = Source([1, 2], faults={1: None}, page=8)
        self.check_run(
            ("else", ("from", "a"), ("from", "b")), shelf_of(a=source, b=source), [1, 1], ("fault", "b", 1),
            ("open", 0, "a"), ("load", 0, 0), ("ask", 0, 0, 1), ("fault", 0, 1), ("shut", 0),
            ("open", 1, "b"), ("load", 1, 0), ("ask", 1, 0, 1), ("fault", 1, 1), ("shut", 1))

    def test_else_within_else(self):
        bad = Source([1], faults={0: None})
        plan = ("else", ("else", ("from", "a"), ("from", "b")), ("from", "c"))
        self.check_told(things_of(row_of(plan, shelf_of(a=bad, b=bad, c=Source([3])))), ([3], ("over",)))
        plan = ("else", ("from", "a"), ("else", ("from", "b"), ("from", "c")))
        self.check_told(things_of(row_of(plan, shelf_of(a=bad, b=bad, c=bad))), ([], ("fault", "c", 0)))

    def test_what_else_closes_at_a_fault(self):
        plan = ("else", ("beside", ("from", "a"), ("from", "b")), ("count", 7, 0, 1))
        shelf = shelf_of(a=Source([1], then=ON, page=8), b=Source([2], then=ON, faults={1: 1}, page=8))
        row = self.check_run(
            plan, shelf, [(1, 2), 7], ("over",), ("open", 0, "a"), ("load", 0, 0), ("ask", 0, 0, 1), ("open", 1, "b"),
            ("load", 1, 0), ("ask", 1, 0, 1), ("ask", 0, 1, 1), ("fault", 1, 1), ("shut", 1), ("shut", 0))
        # What the closed machine held it holds yet, and it isn't told as a rest.
        self.check_told([row.held(), row.rest()], [1, None])

    def test_too_much(self):
        plan = ("matched", (), 2, ("from", "a"), ("from", "b"))
        shelf = shelf_of(a=Source([1]), b=Source([1, 2, 3], page=8))
        row = self.check_run(
            plan, shelf, [], ("much", 2), ("open", 0, "b"), ("load", 0, 0), ("ask", 0, 0, 1), ("ask", 0, 1, 1),
            ("ask", 0, 2, 1), ("shut", 0))
        self.check_told([row.held(), row.asked(), row.is_over()], [2, {(0,): 0, (1,): 3}, True])
        self.check_told(things_of(row_of(("else", plan, ("count", 4, 0, 2)), shelf)), ([4, 4], ("over",)))
        plan = ("matched", (), 3, ("from", "a"), ("from", "b"))
        self.check_told(things_of(row_of(plan, shelf)), ([(1, 1)], ("over",)))

    def test_what_was_gathered_at_a_fault_is_lost(self):
        source = Source([1, 2, 2], faults={2: 1})
        for plan in (("windows", 3, ("from", "a")), ("groups", (), ("from", "a"))):
            row = row_of(plan, shelf_of(a=source))
            self.check_told(things_of(row), ([(1,)] if plan[0] == "groups" else [], ("fault", "a", 2)))
            self.check_told(row.held(), 1 if plan[0] == "groups" else 2)

    def test_a_fault_goes_out_once(self):
        row = row_of(("from", "a"), shelf_of(a=Source([1], faults={0: None})))
        self.check_refused(Fault, {"name": "a", "at": 0}, row.ask)
        for call in (row.ask, row.ask):
            self.check_refused(Over, {}, call)
        self.check_refused(Over, {}, row.throw, "w")


class WaitsOf200(RowCase):
    def test_the_200th_and_the_201st_ask(self):
        self.assertEqual(MOST_ASKS, 200)
        for leaf, shelf in ((("count", 0, 1, None), Shelf()), (("from", "a"), shelf_of(a=Source([0], then=ON)))):
            row = row_of(("chosen", (((), "below", 199, False),), leaf), shelf)
            self.check_told(row.ask(), 199)
            row = row_of(("chosen", (((), "below", 200, False),), leaf), shelf)
            for many in (200, 201):
                if many == 200:
                    self.check_refused(Waits, {"many": 200}, row.ask)
                else:
                    self.check_told(row.ask(), 200)
                self.check_told([row.asked(), row.is_over(), row.told_many()], [{(0,): many}, False, many - 200])

    def test_a_further_ask_goes_on_just_there(self):
        row = row_of(("chosen", (((("rest", 450),), "is", 449, True),), ("count", 0, 1, None)), Shelf())
        told = [answer(row.ask) for _ in range(6)]
        waits = ("waits", 200)
        self.check_told(told, [waits, waits, ("thing", 449), waits, waits, ("thing", 899)])
        row = row_of(("windows", 8, ("chosen", (((("rest", 50),), "is", 0, True),), ("count", 0, 1, None))), Shelf())
        self.check_told([answer(row.ask), row.held()], [waits, 4])
        self.check_told([answer(row.ask), row.held()], [("thing", tuple(range(0, 400, 50))), 7])

    def test_ends_faults_and_tries_count(self):
        # Three times 60 numbers and an end, 7 numbers and an end: so 9 asks are left.
        plan = ("chosen", NEVER, behind_counts(("behind", ("count", 0, 1, 7), ("again", 3, "a"))))
        for faults, left in (({0: 3}, 6), ({0: 1, 1: 2}, 6), (None, 9)):
            shelf = shelf_of(a=Source([1], then=ON, faults=faults))
            row = row_of(plan, shelf)
            self.check_refused(Waits, {"many": 200}, row.ask)
            self.check_told(row.asked()[(0, 1, 1, 1, 1)], left)
            self.check_told(len([row for row in shelf.log() if row[0] in ("ask", "fault")]), 9)

    def test_a_fault_counts_where_the_row_goes_on(self):
        bad = Source([1], faults={0: None})
        plan = ("chosen", NEVER, ("else", ("from", "a"), ("from", "b")))
        row = row_of(plan, shelf_of(a=bad, b=Source([1], then=ON)))
        self.check_refused(Waits, {"many": 200}, row.ask)
        self.check_told(row.asked(), {(0, 0): 0, (0, 1): 199})

    def test_tries_go_on_behind_waits(self):
        plan = ("chosen", (((), "below", 199, False),), ("again", 3, "a"))
        for faults, came in ((3, ("thing", 199)), (4, ("fault", "a", 199))):
            shelf = shelf_of(a=Source([0], then=ON, faults={199: faults}))
            row = row_of(plan, shelf)
            self.check_refused(Waits, {"many": 200}, row.ask)
            self.check_told(shelf.log()[-1], ("fault", 0, 199))
            self.check_told(answer(row.ask), came)
            self.check_told(len([each for each in shelf.log() if each[0] == "fault"]), faults)

    def test_nothing_is_opened(self):
        for many, opened in ((15, [0]), (16, [])):
            shelf = shelf_of(b=Source([5, 6]))
            # Asks: three times 60 and an end, so many and an end; then b's first one.
            row = row_of(("behind", ("chosen", NEVER, behind_counts(("count", 0, 0, many))), ("chosen", (
                ((), "is", 6, True),), ("from", "b"))), shelf)
            self.check_refused(Waits, {"many": 200}, row.ask)
            self.check_told([shelf.open_ones(), list(row.readings())], [opened, [(1, 0)] if opened else []])
            self.check_told(row.ask(), 6)

    def test_no_machine_goes_on(self):
        for many, opened in ((199, []), (200, [0])):
            shelf = shelf_of(a=Source([0], then=ON, faults={many: None}), b=Source([5]))
            row = row_of(("else", ("chosen", NEVER, ("from", "a")), ("from", "b")), shelf)
            self.check_refused(Waits, {"many": 200}, row.ask)
            self.check_told([shelf.open_ones(), len(shelf.log())], [opened, 402 if not opened else 401])
            self.check_told([row.ask(), shelf.open_ones()], [5, [1]])

    def test_a_reading_is_shut_in_the_ask_that_meets_its_end(self):
        # Asks: 60 and an end, 60 and an end, 60 and an end, 16 things: the end of the last one would be the 201st.
        for many in (16, 17):
            shelf = shelf_of(a=Source([0] * many))
            row = row_of(("chosen", NEVER, behind_counts(("from", "a"))), shelf)
            if many == 16:
                self.check_refused(Over, {}, row.ask)
            else:
                self.check_refused(Waits, {"many": 200}, row.ask)
                self.check_told([shelf.open_ones(), shelf.log()[-1]], [[0], ("ask", 0, 16, 1)])
                self.check_refused(Over, {}, row.ask)
                self.check_told(shelf.log()[-2:], [("end", 0), ("shut", 0)])


class ThrownIn(RowCase):
    def test_ahead_of_all(self):
        for leaf in (("from", "a"), ("again", 5, "a"), ("count", 0, 1, None)):
            for word in odd_things():
                shelf = shelf_of(a=Source([1]))
                row = row_of(("sums", leaf), shelf)
                self.check_refused(Thrown, {"word": word}, row.throw, word)
                self.check_told([shelf.log(), row.is_over(), row.told_many(), row.asked(), row.readings()],
                                [[], True, 0, {(0,): 0}, {}])
                self.check_refused(Over, {}, row.ask)

    def test_amid(self):
        shelf = shelf_of(a=Source([1, 2]), b=Source([3]))
        row = row_of(("merged", ("from", "a"), ("from", "b")), shelf)
        row.ask()
        self.check_refused(Thrown, {"word": "w"}, row.throw, word="w")
        self.check_told(shelf.log()[-2:], [("shut", 1), ("shut", 0)])
        self.check_told(row.asked(), {(0,): 1, (1,): 1})

    def test_within_else(self):
        shelf = shelf_of(a=Source([1, 2], page=8), b=Source([5, 6], page=8))
        row = row_of(("else", ("from", "a"), ("from", "b")), shelf)
        self.check_told([row.ask(), row.throw("w"), row.ask()], [1, 5, 6])
        self.check_told(shelf.log(), [
            ("open", 0, "a"), ("load", 0, 0), ("ask", 0, 0, 1), ("shut", 0),
            ("open", 1, "b"), ("load", 1, 0), ("ask", 1, 0, 1), ("ask", 1, 1, 1)])
        self.check_refused(Thrown, {"word": "v"}, row.throw, "v")

    def test_a_leaf_that_was_never_asked(self):
        shelf = shelf_of(a=Source([1]))
        row = row_of(("else", ("from", "a"), ("count", 4, 0, None)), shelf)
        self.check_told([row.throw("w"), shelf.log(), row.readings()], [4, [], {}])

    def test_where_no_leaf_would_be_asked(self):
        row = row_of(("flat", ("windows", 2, ("count", 0, 1, None))), Shelf())
        self.check_told([row.ask(), row.throw("w"), row.ask()], [0, 1, 1])
        row = row_of(("first", 1, ("count", 0, 1, None)), Shelf())
        row.ask()
        self.check_refused(Over, {}, row.throw, "w")
        self.assertIs(row.is_over(), True)
        row = row_of(("first", 0, ("from", "a")), shelf_of(a=Source([1])))
        self.check_refused(Over, {}, row.throw, "w")

    def test_a_word_is_gone_behind_its_ask(self):
        row = row_of(("flat", ("windows", 2, ("count", 0, 1, None))), Shelf())
        row.ask()
        row.throw("w")
        self.check_told([row.ask(), row.told_many()], [1, 3])

    def test_behind_the_end(self):
        row = row_of(("count", 0, 1, 0), Shelf())
        self.check_refused(Over, {}, row.ask)
        self.check_refused(Over, {}, row.throw, "w")
        row = row_of(("count", 0, 1, None), Shelf())
        row.close()
        self.check_refused(Over, {}, row.throw, "w")

    def test_it_is_not_counted(self):
        row = row_of(("chosen", NEVER, ("else", ("from", "a"), ("count", 0, 1, None))), shelf_of(a=Source([1])))
        self.check_refused(Waits, {"many": 200}, row.throw, "w")
        self.check_told(row.asked(), {(0, 0): 0, (0, 1): 200})

    def test_it_is_thrown_in_amid_tries_and_not_tried_again(self):
        shelf = shelf_of(a=Source([0], then=ON, faults={199: 3}))
        row = row_of(("chosen", (((), "below", 199, False),), ("again", 3, "a")), shelf)
        answer(row.ask)
        many = len(shelf.log())
        self.check_refused(Thrown, {"word": 0}, row.throw, 0)
        self.check_told(shelf.log()[many:], [("shut", 0)])


class Closed(RowCase):
    def sources(self):
        return {
            "a": Source([1], then=ON, page=8, close_fault=True), "b": Source([2], then=ON, page=8),
            "c": Source([3], then=ON, page=8, close_fault=True), "d": Source([4], page=8, close_fault=True),
        }

    def test_ahead_of_the_first_ask(self):
        shelf = shelf_of(**self.sources())
        row = row_of(("from", "a"), shelf)
        self.assertIs(row.close(), None)
        self.check_told([shelf.log(), row.is_over(), row.not_shut()], [[], True, []])
        self.check_refused(Over, {}, row.ask)
        self.assertIs(row.close(), None)

    def test_amid(self):
        shelf = shelf_of(**self.sources())
        row = row_of(("merged", ("from", "a"), ("merged", ("from", "c"), ("from", "b"))), shelf)
        row.ask()
        with self.assertRaises(NotShut) as caught:
            row.close()
        self.check_told(caught.exception.found, ["c", "a"])
        self.check_told(shelf.log()[-3:], [("shut", 2), ("badly", 1), ("badly", 0)])
        self.check_told([row.is_over(), row.not_shut()], [True, ["c", "a"]])
        self.check_refused(Over, {}, row.ask)
        many = len(shelf.log())
        self.assertIs(row.close(), None)
        self.check_told([len(shelf.log()), row.not_shut()], [many, ["c", "a"]])

    def test_amid_without_a_closing_that_faults(self):
        row = row_of(("from", "b"), shelf_of(**self.sources()))
        row.ask()
        self.assertIs(row.close(), None)
        self.check_told(row.not_shut(), [])

    def test_behind_an_end_where_closing_faulted(self):
        row = row_of(("behind", ("from", "d"), ("from", "d")), shelf_of(**self.sources()))
        self.check_told(things_of(row), ([4, 4], ("over",)))
        self.check_told([row.not_shut(), row.close(), row.not_shut()], [["d", "d"], None, ["d", "d"]])

    def test_behind_a_fault_where_closing_faulted(self):
        shelf = shelf_of(**self.sources(), e=Source([1], faults={0: 1}))
        row = row_of(("beside", ("merged", ("from", "a"), ("from", "c")), ("from", "e")), shelf)
        self.check_refused(Fault, {"name": "e", "at": 0}, row.ask)
        self.check_told(shelf.log()[-3:], [("shut", 2), ("badly", 1), ("badly", 0)])
        self.check_told([row.not_shut(), row.close()], [["c", "a"], None])

    def test_a_close_by_hand_tells_its_own_names_alone(self):
        shelf = shelf_of(**self.sources())
        row = row_of(("behind", ("first", 1, ("from", "c")), ("from", "a")), shelf)
        row.ask()
        self.check_told(row.not_shut(), ["c"])
        row.ask()
        with self.assertRaises(NotShut) as caught:
            row.close()
        self.check_told([caught.exception.found, row.not_shut()], [["a"], ["c", "a"]])
        caught.exception.found.append("x")
        row.not_shut().append("y")
        self.check_told(row.not_shut(), ["c", "a"])

    def test_where_the_part_closed_faults_the_row_goes_on(self):
        row = row_of(("else", ("beside", ("from", "a"), ("again", 1, "e")), ("from", "d")),
                     shelf_of(**self.sources(), e=Source([1], faults={0: None}, close_fault=True)))
        self.check_told(things_of(row), ([4], ("over",)))
        self.check_told(row.not_shut(), ["e", "a", "d"])

    def test_behind_waits(self):
        shelf = shelf_of(**self.sources())
        row = row_of(("chosen", NEVER, ("from", "b")), shelf)
        answer(row.ask)
        self.check_told([shelf.open_ones(), row.close(), shelf.open_ones()], [[0], None, []])


class Told(RowCase):
    def test_held(self):
        shelf = shelf_of(a=Source([1, 2, 3]), b=Source([2, 2, 9]))
        row = row_of(("flat", ("beside", ("windows", 2, ("from", "a")), ("merged", ("from", "b"), ("from", "b")))), shelf)
        self.check_told(row.held(), 0)
        told = []
        for _ in range(5):
            told.append((answer(row.ask), row.held()))
        # A window keeps one, merged keeps one of the second b; of (x, y) y lies ready, then none.
        self.check_told(told, [
            (("thing", (1, 2)), 3), (("thing", 2), 2), (("thing", (2, 3)), 3), (("thing", 2), 2), (("over",), 2)])
        row.close()
        self.check_told(row.held(), 2)

    def test_held_behind_a_close(self):
        row = row_of(("groups", (("rest", 1),), ("count", 0, 1, None)), Shelf())
        self.check_told([row.ask(), row.held()], [tuple(range(8)), 0])
        row = row_of(("chosen", NEVER, ("flat", ("windows", 8, ("count", 0, 1, None)))), Shelf())
        answer(row.ask)
        row.close()
        self.check_told(row.held(), 7)
        row = row_of(("count", 0, 1, None), Shelf())
        row.ask()
        self.check_told(row.held(), 0)

    def test_rest(self):
        shelf = shelf_of(a=Source([(1), 2, 3]), b=Source([7]))
        plan = ("beside", ("from", "a"), ("from", "b"))
        row = row_of(plan, shelf)
        row.ask()
        self.assertIs(row.rest(), None)
        self.check_refused(Over, {}, row.ask)
        self.check_told([row.rest(), row.close(), row.rest()], [2, None, 2])
        row = row_of(("turned", (), plan), shelf)
        things_of(row)
        self.assertIs(row.rest(), None)
        row = row_of(("beside", ("from", "b"), ("from", "a")), shelf)
        things_of(row)
        self.assertIs(row.rest(), None)
        for plan in (("from", "a"), ("count", 0, 1, 2), ("merged", ("from", "a"), ("from", "b"))):
            row = row_of(plan, shelf)
            things_of(row)
            self.assertIs(row.rest(), None)

    def test_dicts_are_new_and_in_the_order_of_the_spots(self):
        shelf = shelf_of(a=Source([1]), b=Source([2]))
        row = row_of(("matched", (), 2, ("from", "a"), ("behind", ("count", 1, 1, 1), ("from", "b"))), shelf)
        row.ask()
        self.check_told(list(row.asked().items()), [((0,), 1), ((1, 0), 1), ((1, 1), 1)])
        self.check_told(list(row.readings().items()), [((0,), 1), ((1, 1), 0)])
        row.asked().clear()
        row.readings().clear()
        self.check_told([row.asked(), row.readings()], [{(0,): 1, (1, 0): 1, (1, 1): 1}, {(0,): 1, (1, 1): 0}])

    def test_asking_tells_and_changes_nothing_else(self):
        for chance, plan, shelf in runs(100, seed=5):
            row = row_of(plan, shelf)
            for _ in range(chance.randint(0, 9)):
                answer(row.ask)
            log = shown(shelf.log())
            self.assertEqual(state(row), state(row))
            self.assertEqual(shown(shelf.log()), log)


if __name__ == "__main__":
    unittest.main()
