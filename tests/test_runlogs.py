"""Points 73 and 74: the log that is due, and the first row that isn't the due one."""

import unittest

from greatrows.errors import Fault, NoList, NoNumber, NoPlan, NoShelf, NotShut, NotThere, Over, TooMuch, Waits
from greatrows.plain import plain_told
from greatrows.plans import is_plan
from greatrows.rows import row_of
from greatrows.runlogs import first_unlike, log_due
from greatrows.sources import Source
from greatrows.things import is_whole
from helpers import Case, odd_things, shelf_of, shown
from model import Run, runs

ON = (("add", 1),)
NEVER = (((), "below", 0, True),)
ODD = (((("rest", 2),), "is", 1, True),)
COUNT = ("count", 0, 1, None)
OPEN = ("chosen", NEVER, COUNT)
A, B, C = ("from", "a"), ("from", "b"), ("from", "c")


def full_shelf():
    return shelf_of(a=Source([1, 3, 2, 5], then=ON, page=8), b=Source([2], page=8, close_fault=True),
                    c=Source([4, 4], then=ON, faults={1: 2}, page=8))


def row_log(plan, shelf, many):
    """The log of a row that is asked so often, and then closed, on a copy of a shelf as new."""
    copy = shelf.copied()
    row = row_of(plan, copy)
    while row.told_many() < many and not row.is_over():
        try:
            row.ask()
        except (Over, Fault, TooMuch, Waits):
            pass
    try:
        row.close()
    except NotShut:
        pass
    return copy.log()


class Due(Case):
    def check_due(self, plan, many, *log):
        shelf = full_shelf()
        self.check_told(log_due(plan, shelf, many), list(log))
        self.check_told(log_due(many=many, shelf=shelf, plan=plan), list(log))
        self.assertIs(first_unlike(plan, shelf, many, list(log)), None)
        self.assertEqual(shelf.log(), [])

    def test_logs_of_rows_and_of_generators(self):
        for chance, plan, shelf in runs(800, seed=73):
            many = chance.choice((0, 1, 2, 5, 12))
            if plain_told(plan, shelf, many)[1] == "open":
                self.check_refused(Waits, {"many": 1600}, log_due, plan, shelf, many)
                self.check_refused(Waits, {"many": 1600}, first_unlike, plan, shelf, many, [])
                continue
            log = log_due(plan, shelf, many)
            self.check_told(log, row_log(plan, shelf, many))
            copy = shelf.copied()
            run = Run(plan, copy)
            for _ in range(many):
                run.ask()
            run.close()
            self.check_told(log, copy.log())
            self.assertIs(first_unlike(plan, shelf, many, log), None)

    def test_no_thing_opens_nothing(self):
        for plan in (A, OPEN, ("first", 0, A)):
            self.check_due(plan, 0)
        self.check_due(("first", 0, A), 3)
        self.check_due(COUNT, 400)

    def test_the_rest_is_shut_at_the_end(self):
        self.check_due(
            ("merged", A, C), 1, ("open", 0, "a"), ("load", 0, 0), ("ask", 0, 0, 1), ("open", 1, "c"), ("load", 1, 0),
            ("ask", 1, 0, 1), ("shut", 1), ("shut", 0))

    def test_each_is_shut_at_its_end(self):
        self.check_due(
            ("behind", B, A), 2, ("open", 0, "b"), ("load", 0, 0), ("ask", 0, 0, 1), ("end", 0), ("badly", 0),
            ("open", 1, "a"), ("load", 1, 0), ("ask", 1, 0, 1), ("shut", 1))

    def test_what_is_needed_no_more(self):
        head = (("open", 0, "a"), ("load", 0, 0), ("ask", 0, 0, 1))
        self.check_due(("behind", ("first", 1, A), B), 2, *head, ("shut", 0), ("open", 1, "b"), ("load", 1, 0),
                       ("ask", 1, 0, 1), ("badly", 1))
        self.check_due(("while", ODD, A), 3, *head, ("ask", 0, 1, 1), ("ask", 0, 2, 1), ("shut", 0))
        self.check_due(("until", (((), "is", 3, True),), A), 2, *head, ("ask", 0, 1, 1), ("shut", 0))
        self.check_due(("beside", A, B), 2, *head, ("open", 1, "b"), ("load", 1, 0), ("ask", 1, 0, 1), ("ask", 0, 1, 1),
                       ("end", 1), ("badly", 1), ("shut", 0))

    def test_else_and_faults(self):
        self.check_due(
            ("else", ("beside", A, C), B), 2, ("open", 0, "a"), ("load", 0, 0), ("ask", 0, 0, 1), ("open", 1, "c"),
            ("load", 1, 0), ("ask", 1, 0, 1), ("ask", 0, 1, 1), ("fault", 1, 1), ("shut", 1), ("shut", 0),
            ("open", 2, "b"), ("load", 2, 0), ("ask", 2, 0, 1), ("badly", 2))
        self.check_due(C, 2, ("open", 0, "c"), ("load", 0, 0), ("ask", 0, 0, 1), ("fault", 0, 1), ("shut", 0))
        self.check_due(
            ("again", 2, "c"), 2, ("open", 0, "c"), ("load", 0, 0), ("ask", 0, 0, 1), ("fault", 0, 1), ("fault", 0, 1),
            ("ask", 0, 1, 1), ("shut", 0))
        self.check_due(
            ("matched", (), 1, B, A), 2, ("open", 0, "a"), ("load", 0, 0), ("ask", 0, 0, 1), ("ask", 0, 1, 1),
            ("shut", 0))

    def test_it_goes_on_behind_waits(self):
        shelf = shelf_of(a=Source([0], then=ON, page=8))
        log = log_due(("chosen", (((), "below", 700, False),), A), shelf, 1)
        self.assertEqual(len([row for row in log if row[0] == "ask"]), 701)
        self.check_told(log[-1], ("shut", 0))

    def test_a_shelf_on_which_something_was_done(self):
        shelf = full_shelf()
        reading = shelf.open_up("c")
        shelf.ask(reading)
        shelf.ask_lot(shelf.open_up("a"), 3)
        before = shown(shelf.log())
        self.check_told(log_due(C, shelf, 2), log_due(C, full_shelf(), 2))
        self.assertIs(first_unlike(C, shelf, 2, log_due(C, full_shelf(), 2)), None)
        self.assertEqual(shown(shelf.log()), before)

    def test_a_log_is_a_new_list(self):
        shelf = full_shelf()
        log_due(A, shelf, 1).clear()
        self.assertEqual(len(log_due(A, shelf, 1)), 4)


class Unlike(Case):
    def setUp(self):
        self.shelf = full_shelf()
        self.plan = ("beside", A, B)
        self.due = log_due(self.plan, self.shelf, 3)

    def check_unlike(self, log, at):
        before = shown(log)
        for other in (log, tuple(log)):
            self.check_told(first_unlike(self.plan, self.shelf, 3, other), at)
        self.check_told(first_unlike(log=log, many=3, shelf=self.shelf, plan=self.plan), at)
        self.assertEqual(shown(log), before)

    def test_the_due_log(self):
        self.check_unlike(self.due, None)
        self.assertEqual(len(self.due), 10)

    def test_each_row(self):
        for at, row in enumerate(self.due):
            for other in [*odd_things(), row[:-1], (*row, 0), list(row), ("end", 7)]:
                if other != row:
                    self.check_unlike([*self.due[:at], other, *self.due[at + 1:]], at)
            self.check_unlike([*self.due[:at], *self.due[at + 1:]], at)

    def test_a_truth_is_no_number(self):
        for at, row in enumerate(self.due):
            for place, part in enumerate(row):
                if part in (0, 1):
                    self.check_unlike([*self.due[:at], (*row[:place], bool(part), *row[place + 1:]), *self.due[at + 1:]], at)

    def test_a_log_that_lacks_rows(self):
        for many in range(len(self.due)):
            self.check_unlike(self.due[:many], many)

    def test_a_log_with_more_rows(self):
        for row in (self.due[-1], ("end", 0), None, 5):
            self.check_unlike([*self.due, row], 10)
            self.check_unlike([*self.due, row, row], 10)

    def test_the_log_of_another_number_of_things(self):
        shelf = full_shelf()
        self.check_told(first_unlike(A, shelf, 2, log_due(A, shelf, 3)), 4)
        self.check_told(first_unlike(A, shelf, 3, log_due(A, shelf, 2)), 4)
        self.check_told([first_unlike(A, shelf, 0, []), first_unlike(A, shelf, 0, [("open", 0, "a")])], [None, 0])


class Refused(Case):
    def test_what_no_argument_may_be_in_their_order(self):
        shelf = full_shelf()
        for call, more in ((log_due, []), (first_unlike, [[]]), (first_unlike, [None])):
            for thing in odd_things():
                if not is_plan(thing):
                    for other, many in ((shelf, 1), (None, True)):
                        self.check_refused(NoPlan, {"found": thing}, call, thing, other, many, *more)
                for plan, many in ((A, 1), (("from", "z"), -1), (OPEN, 5)):
                    self.check_refused(NoShelf, {"found": thing}, call, plan, thing, many, *more)
                if not is_whole(thing, 0, 400):
                    for plan in (A, ("from", "z"), OPEN):
                        self.check_refused(NoNumber, {"found": thing}, call, plan, shelf, thing, *more)
            for many in (-1, 401, True):
                self.check_refused(NoNumber, {"found": many}, call, A, shelf, many, *more)

    def test_what_is_no_list(self):
        shelf = full_shelf()
        for thing in odd_things():
            if not isinstance(thing, (list, tuple)):
                for plan in (A, ("from", "z"), OPEN):
                    self.check_refused(NoList, {"found": thing}, first_unlike, plan, shelf, 1, thing)
                self.check_refused(NoList, {"found": thing}, first_unlike, log=thing, many=1, shelf=shelf, plan=A)

    def test_a_name_that_the_shelf_lacks_ahead_of_waits(self):
        shelf = full_shelf()
        plan = ("behind", OPEN, ("merged", ("from", "z"), ("from", "y")))
        self.check_refused(NotThere, {"found": "z"}, log_due, plan, shelf, 1)
        self.check_refused(NotThere, {"found": "z"}, first_unlike, plan, shelf, 0, [])
        for log in ([], [None], ()):
            self.check_refused(Waits, {"many": 1600}, log_due, OPEN, shelf, 1)
            self.check_refused(Waits, {"many": 1600}, first_unlike, OPEN, shelf, 400, log)
        self.check_told(log_due(OPEN, shelf, 0), [])


if __name__ == "__main__":
    unittest.main()
