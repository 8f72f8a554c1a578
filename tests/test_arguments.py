"""Points 6, 7 and 8 over the whole program: arguments by place and by name, what is handed in and told, refusals."""

import inspect
import unittest

from greatrows import errors
from greatrows.ahead import round_of, shows_round, told_ahead, what_matters
from greatrows.alike import parted_by, shows_parted
from greatrows.deeds import (
    deeds_text, is_deeds, is_tests, read_deeds, read_tests, tests_behind, tests_hold, tests_text, turned_by,
)
from greatrows.desk import Desk
from greatrows.hands import Hands
from greatrows.joins import Beside, Matched, machine_of
from greatrows.keeping import Kept
from greatrows.lots import Lots
from greatrows.machines import Chosen, First, Groups, Machine, Skip, Turned, Until, While, Windows
from greatrows.orders import ends_by_turns, shows_turns
from greatrows.parted import Kinds, Parted, Reader
from greatrows.plain import needs_told, plain_told
from greatrows.plans import is_leaf, is_plan, names_in, nodes_in, part_at, parts_of, put_at, renamed, spots_of
from greatrows.plantext import plan_text, read_plan
from greatrows.rewriting import RULES, cheapest, cheapest_paper, cost_of, rewritten, rules_at, shows_cheapest
from greatrows.rows import Row, row_of
from greatrows.runlogs import first_unlike, log_due
from greatrows.shelves import Shelf
from greatrows.sources import Source
from greatrows.things import is_name, is_thing, is_whole, number_in, value_of
from helpers import Case, Own, answer, odd_things, shelf_of, shown

PLAN = ("merged", ("turned", (("add", 1),), ("turned", (), ("from", "a"))), ("from", "b"))
DEEDS = (("add", 1), ("rest", 5))
TESTS = (((), "below", 3, True),)


def full_shelf():
    return shelf_of(a=Source([1, 5]), b=Source([2, 2], close_fault=True))


def is_text(thing):
    return isinstance(thing, str)


def is_listed(thing):
    return isinstance(thing, (list, tuple))


def spot_in(thing):
    return shown(thing) in [shown(spot) for spot in spots_of(PLAN)]


def number(low, high):
    return (errors.NoNumber, lambda thing: is_whole(thing, low, high))


def number_or_none(low, high):
    return (errors.NoNumber, lambda thing: thing is None or is_whole(thing, low, high))


# Kinds of arguments: the class of the refusal, and whether a thing is of the kind; None where any thing may be.
ANY = None
PLANS = (errors.NoPlan, is_plan)
SHELVES = (errors.NoShelf, lambda thing: isinstance(thing, Shelf))
ALL_DEEDS = (errors.NoDeeds, is_deeds)
ALL_TESTS = (errors.NoTests, is_tests)
THINGS = (errors.NoThing, is_thing)
SPOTS = (errors.NoSpot, spot_in)
READERS = (errors.NoRow, lambda thing: isinstance(thing, (Row, Reader)))
NAMES = (errors.NotThere, lambda thing: thing in ("a", "b"))
NEW_NAMES = (errors.NoName, is_name)
NAMINGS = (errors.NoList, lambda thing: isinstance(thing, dict) and all(is_name(one) and is_name(other) for one,
    other in thing.items()))
READINGS = (errors.NotOpen, lambda thing: is_whole(thing, 0, 0))
ORDERS = (errors.NoOrder, lambda thing: is_listed(thing) and {shown(spot) for spot in thing} == {
    shown(spot) for spot in spots_of(PLAN)})
LINES = (errors.NoLine, lambda thing: thing in ("names",))
MARKS = (errors.NotThere, lambda thing: is_whole(thing, 0, 0))


def row():
    return row_of(PLAN, full_shelf())


def opened():
    shelf = full_shelf()
    shelf.open_up("a")
    return shelf


def marked():
    kept = Kept(row())
    kept.mark()
    return kept


# Of each call: what makes it anew, and its arguments: name, kind, and one that is good; those behind "*" by name alone.
CALLS = {
    "is_whole": (lambda: is_whole, ("thing", ANY, 3), ("low", ANY, 1), ("high", ANY, None)),
    "is_name": (lambda: is_name, ("thing", ANY, "a")),
    "is_thing": (lambda: is_thing, ("thing", ANY, (1, (2,)))),
    "value_of": (lambda: value_of, ("thing", THINGS, (1, (2,)))),
    "number_in": (lambda: number_in, ("thing", ANY, "12"), "*", ("least", number_or_none(None, None), 3),
                  ("most", number_or_none(None, None), None)),
    "is_deeds": (lambda: is_deeds, ("thing", ANY, DEEDS)),
    "is_tests": (lambda: is_tests, ("thing", ANY, TESTS)),
    "turned_by": (lambda: turned_by, ("deeds", ALL_DEEDS, DEEDS), ("thing", THINGS, (1, 2))),
    "tests_hold": (lambda: tests_hold, ("tests", ALL_TESTS, TESTS), ("thing", THINGS, (1, 2))),
    "tests_behind": (lambda: tests_behind, ("tests", ALL_TESTS, TESTS), ("deeds", ALL_DEEDS, DEEDS)),
    "deeds_text": (lambda: deeds_text, ("deeds", ALL_DEEDS, DEEDS)),
    "tests_text": (lambda: tests_text, ("tests", ALL_TESTS, TESTS)),
    "read_deeds": (lambda: read_deeds, ("thing", ANY, "add 1")),
    "read_tests": (lambda: read_tests, ("thing", ANY, "none is 1 yes")),
    "is_plan": (lambda: is_plan, ("thing", ANY, PLAN)),
    "is_leaf": (lambda: is_leaf, ("plan", PLANS, PLAN)),
    "parts_of": (lambda: parts_of, ("plan", PLANS, PLAN)),
    "nodes_in": (lambda: nodes_in, ("plan", PLANS, PLAN)),
    "spots_of": (lambda: spots_of, ("plan", PLANS, PLAN)),
    "names_in": (lambda: names_in, ("plan", PLANS, PLAN)),
    "part_at": (lambda: part_at, ("plan", PLANS, PLAN), ("spot", SPOTS, (0,))),
    "put_at": (lambda: put_at, ("plan", PLANS, PLAN), ("spot", SPOTS, (0,)), ("other", PLANS, ("from", "c"))),
    "renamed": (lambda: renamed, ("plan", PLANS, PLAN), ("names", NAMINGS, {"a": "c"})),
    "plan_text": (lambda: plan_text, ("plan", PLANS, PLAN)),
    "read_plan": (lambda: read_plan, ("text", (errors.NoWord, is_text), plan_text(PLAN))),
    "Source": (lambda: lambda *args, **named: Source(*args, **named).told(), ("things", ANY, [1, 2]), "*",
    ("then", ANY, DEEDS),
               ("page", number(1, 8), 3), ("faults", ANY, {1: 2}), ("close_fault",
               (errors.NoTruth, lambda thing: isinstance(thing, bool)), True)),
    "Source.thing": (lambda: Source([1, 2], then=DEEDS).thing, ("number", number(0, None), 3)),
    "Source.how_many": (lambda: Source([1, 2]).how_many,),
    "Source.told": (lambda: Source([1, 2]).told,),
    "Shelf.put_up": (lambda: Shelf().put_up, ("name", NEW_NAMES, "a"), (
        "source", (errors.NoSource, lambda thing: isinstance(thing, Source)), Source([1]))),
    "Shelf.names": (lambda: full_shelf().names,),
    "Shelf.source": (lambda: full_shelf().source, ("name", NAMES, "a")),
    "Shelf.open_up": (lambda: full_shelf().open_up, ("name", NAMES, "a")),
    "Shelf.ask": (lambda: opened().ask, ("reading", READINGS, 0)),
    "Shelf.ask_lot": (lambda: opened().ask_lot, ("reading", READINGS, 0), ("many", number(1, 400), 2)),
    "Shelf.shut": (lambda: opened().shut, ("reading", READINGS, 0)),
    "Shelf.place": (lambda: opened().place, ("reading", (errors.NotThere, READINGS[1]), 0)),
    "Shelf.name_of": (lambda: opened().name_of, ("reading", (errors.NotThere, READINGS[1]), 0)),
    "Shelf.is_open": (lambda: opened().is_open, ("thing", ANY, 0)),
    "Shelf.open_ones": (lambda: opened().open_ones,),
    "Shelf.log": (lambda: opened().log,),
    "Shelf.told_of": (lambda: opened().told_of, ("name", NAMES, "a")),
    "Shelf.loads": (lambda: opened().loads, ("name", NAMES, "a")),
    "Turned": (lambda: Turned, ("deeds", ALL_DEEDS, DEEDS)),
    "Groups": (lambda: Groups, ("deeds", ALL_DEEDS, DEEDS)),
    "Chosen": (lambda: Chosen, ("tests", ALL_TESTS, TESTS)),
    "While": (lambda: While, ("tests", ALL_TESTS, TESTS)),
    "Until": (lambda: Until, ("tests", ALL_TESTS, TESTS)),
    "First": (lambda: First, ("many", number(0, 60), 60)),
    "Skip": (lambda: Skip, ("many", number(0, 60), 0)),
    "Windows": (lambda: Windows, ("many", number(1, 8), 8)),
    "Matched": (lambda: Matched, ("deeds", ALL_DEEDS, DEEDS), ("room", number(1, 8), 8)),
    "Machine.takes": (lambda: Machine().takes, ("at", ANY, 0), ("thing", ANY, 5)),
    "Machine.ends": (lambda: Machine().ends, ("at", ANY, 0)),
    "Machine.goes_on": (lambda: Machine().goes_on, ("at", ANY, 0)),
    "Machine.sure": (lambda: Turned(()).sure, ("many", ANY, 7)),
    "Machine.needless": (lambda: First(0).needless,),
    "Beside.rest": (lambda: Beside().rest,),
    "machine_of": (lambda: machine_of, ("plan", PLANS, PLAN)),
    "row_of": (lambda: row_of, ("plan", PLANS, PLAN), ("shelf", SHELVES, full_shelf())),
    "Row.ask": (lambda: row().ask,),
    "Row.throw": (lambda: row_of(("else", ("from", "a"), ("from", "b")), full_shelf()).throw, ("word", ANY, [1])),
    "Row.not_shut": (lambda: row().not_shut,),
    "Row.asked": (lambda: row().asked,),
    "Row.readings": (lambda: row().readings,),
    "plain_told": (lambda: plain_told, ("plan", PLANS, PLAN), ("shelf", SHELVES, full_shelf()),
    ("many", number(0, 400), 3)),
    "needs_told": (lambda: needs_told, ("plan", PLANS, PLAN), ("shelf", SHELVES, full_shelf()),
    ("many", number(0, 400), 3)),
    "log_due": (lambda: log_due, ("plan", PLANS, PLAN), ("shelf", SHELVES, full_shelf()), ("many", number(0, 400), 3)),
    "first_unlike": (lambda: first_unlike, ("plan", PLANS, PLAN), ("shelf", SHELVES, full_shelf()),
    ("many", number(0, 400), 3),
                     ("log", (errors.NoList, is_listed), [("open", 0, "a")])),
    "Parted": (lambda: Parted, ("row", READERS, row()), ("many", number(1, 6), 2), "*",
    ("room", number_or_none(1, 60), 5)),
    "Parted.hand": (lambda: Parted(row(), 1).hand, ("number", MARKS, 0)),
    "Kinds": (lambda: Kinds, ("row", READERS, row()), ("deeds", ALL_DEEDS, DEEDS), "*",
    ("room", number_or_none(1, 60), 5)),
    "Kinds.hand": (lambda: Kinds(row(), ()).hand, ("kind", THINGS, (1,))),
    "Kinds.kinds": (lambda: Kinds(row(), ()).kinds,),
    "Kinds.waiting": (lambda: Kinds(row(), ()).waiting, ("kind", THINGS, (1,))),
    "Kept": (lambda: Kept, ("row", READERS, row()), "*", ("room", number_or_none(1, 60), 5)),
    "Kept.back": (lambda: marked().back, ("mark", MARKS, 0)),
    "Kept.release": (lambda: marked().release, ("mark", MARKS, 0)),
    "Kept.marks": (lambda: marked().marks,),
    "Lots": (lambda: Lots, ("plan", PLANS, PLAN), ("shelf", SHELVES, full_shelf())),
    "Lots.lot": (lambda: Lots(PLAN, full_shelf()).lot, ("many", number(1, 400), 3)),
    "Lots.not_shut": (lambda: Lots(PLAN, full_shelf()).not_shut,),
    "Lots.asked": (lambda: Lots(PLAN, full_shelf()).asked,),
    "Lots.readings": (lambda: Lots(PLAN, full_shelf()).readings,),
    "Hands": (lambda: Hands, ("plan", PLANS, PLAN), ("shelf", SHELVES, full_shelf()), "*", ("room", number(1, 4), 2)),
    "Hands.turn": (lambda: Hands(PLAN, full_shelf()).turn, ("spot", SPOTS, (1,))),
    "Hands.told": (lambda: Hands(PLAN, full_shelf()).told,),
    "Hands.not_shut": (lambda: Hands(PLAN, full_shelf()).not_shut,),
    "Hands.waiting": (lambda: Hands(PLAN, full_shelf()).waiting,),
    "Hands.asked": (lambda: Hands(PLAN, full_shelf()).asked,),
    "Hands.run": (lambda: Hands(PLAN, full_shelf()).run, ("order", ORDERS, spots_of(PLAN)),
    ("many", number(0, 400), 2)),
    "ends_by_turns": (lambda: ends_by_turns, ("plan", PLANS, ("sums", ("from", "a"))), ("shelf", SHELVES, full_shelf()),
                      ("many", number(0, 400), 1), "*", ("room", number(1, 4), 2)),
    "shows_turns": (lambda: shows_turns, ("plan", PLANS, PLAN), ("shelf", SHELVES, full_shelf()),
    ("many", number(0, 400), 1),
                    ("thing", ANY, [(1,)]), "*", ("room", number(1, 4), 2)),
    "told_ahead": (lambda: told_ahead, ("plan", PLANS, PLAN), ("shelf", SHELVES, full_shelf()), "*",
    ("most", number(1, 2000), 9)),
    "round_of": (lambda: round_of, ("plan", PLANS, PLAN), ("shelf", SHELVES, full_shelf()), "*",
    ("most", number(1, 2000), 9)),
    "shows_round": (lambda: shows_round, ("plan", PLANS, PLAN), ("shelf", SHELVES, full_shelf()),
    ("thing", ANY, (0, 1))),
    "what_matters": (lambda: what_matters, ("plan", PLANS, PLAN), ("spot", SPOTS, (0,))),
    "rules_at": (lambda: rules_at, ("plan", PLANS, PLAN), ("spot", SPOTS, (0,))),
    "rewritten": (lambda: rewritten, ("plan", PLANS, PLAN), ("rule", (errors.NoWord, lambda thing: thing in RULES),
    "fuse"),
                  ("spot", SPOTS, (0,))),
    "cost_of": (lambda: cost_of, ("plan", PLANS, PLAN)),
    "cheapest": (lambda: cheapest, ("plan", PLANS, PLAN), "*", ("most", number(1, 2000), 9)),
    "cheapest_paper": (lambda: cheapest_paper, ("plan", PLANS, PLAN), "*", ("most", number(1, 2000), 9)),
    "shows_cheapest": (lambda: shows_cheapest, ("plan", PLANS, PLAN), ("thing", ANY, (PLAN, [], [PLAN]))),
    "parted_by": (lambda: parted_by, ("one", PLANS, PLAN), ("other", PLANS, ("from", "a"))),
    "shows_parted": (lambda: shows_parted, ("one", PLANS, PLAN), ("other", PLANS, ("from", "a")),
    ("thing", ANY, {"a": [1], "b": []})),
    "Desk.say": (lambda: Desk().say, ("line", LINES, "names")),
}


def told_parts(thing):
    """The thing, and all that lies in it."""
    found = [thing]
    if isinstance(thing, dict):
        for part in thing.values():
            found.extend(told_parts(part))
    elif isinstance(thing, (list, tuple)):
        for part in thing:
            found.extend(told_parts(part))
    return found


def looked_at(came):
    """A text of what came, in which objects are told by their class."""
    return came.__class__.__name__ if not isinstance(came, (int, str, list, tuple, dict, type(None))) else shown(came)


class Arguments(Case):
    def split(self, params):
        """The arguments by place, and those by name alone."""
        at = params.index("*") if "*" in params else len(params)
        return list(params[:at]), list(params[at + 1:])

    def test_the_table_has_their_names(self):
        for name, (make, *params) in CALLS.items():
            if name == "Source":
                continue
            told = inspect.signature(make()).parameters
            placed, named = self.split(params)
            self.assertEqual(list(told), [each[0] for each in placed + named], name)
            for each in named:
                self.assertIs(told[each[0]].kind, inspect.Parameter.KEYWORD_ONLY)
            for each in placed:
                self.assertIs(told[each[0]].kind, inspect.Parameter.POSITIONAL_OR_KEYWORD)

    def test_by_place_and_by_name_and_nothing_handed_in_is_changed(self):
        for name, (make, *params) in CALLS.items():
            placed, named = self.split(params)
            before = shown([each[2] for each in placed + named])
            by_name = {each[0]: each[2] for each in named}
            one = make()(*[each[2] for each in placed], **by_name)
            other = make()(**{each[0]: each[2] for each in reversed(placed)}, **by_name)
            self.assertEqual(looked_at(one), looked_at(other), name)
            self.assertEqual(shown([each[2] for each in placed + named]), before, name)
            if named:
                with self.assertRaises(TypeError):
                    make()(*[each[2] for each in placed], *[each[2] for each in named])

    def test_what_is_told_is_new_each_time(self):
        for name, (make, *params) in CALLS.items():
            placed, named = self.split(params)
            arguments = [each[2] for each in placed]
            by_name = {each[0]: each[2] for each in named}
            if name in ("Lots.lot", "Shelf.ask_lot"):
                continue
            call = make()
            came = call(*arguments, **by_name)
            if not isinstance(came, (list, dict, tuple)):
                continue
            expected = shown(came)
            for part in told_parts(came):
                if isinstance(part, list):
                    part.append("changed")
                elif isinstance(part, dict):
                    part["changed"] = "changed"
            self.assertEqual(shown(call(*arguments, **by_name)), expected, name)

    def test_what_an_argument_may_not_be_is_refused_in_their_order(self):
        for name, (make, *params) in CALLS.items():
            placed, named = self.split(params)
            every = placed + named
            for at, (param, kind, _) in enumerate(every):
                if kind is not ANY:
                    for thing in odd_things():
                        if not kind[1](thing):
                            self.check_wrong(name, make, placed, named, at, thing)

    def check_wrong(self, name, make, placed, named, at, thing):
        """A wrong argument is refused, by place and by name, whatever those behind it are."""
        every = placed + named
        error = every[at][1][0]
        for behind in ("good", "wrong"):
            given = [each[2] for each in every]
            given[at] = thing
            if behind == "wrong":
                given[at + 1:] = [Own() for _ in given[at + 1:]]
            by_name = {each[0]: one for each, one in zip(every, given)}
            self.check_refused(error, {"found": thing}, make(), **by_name)
            self.check_refused(error, {"found": thing}, make(), *given[:len(placed)],
                               **{each[0]: one for each, one in zip(named, given[len(placed):])})

    def test_what_is_refused_changes_nothing(self):
        for make, call, look in (
                (lambda: Lots(PLAN, full_shelf()), lambda lots: lots.lot(0),
                lambda lots: [lots.told_many(), lots.asked(), lots.is_over()]),
                (lambda: Hands(PLAN, full_shelf()), lambda hands: hands.turn((5,)),
                lambda hands: [hands.waiting(), hands.asked()]),
                (lambda: Hands(PLAN, full_shelf()), lambda hands: hands.run([()], 3),
                lambda hands: [hands.waiting(), hands.asked()]),
                (lambda: Hands(PLAN, full_shelf()), lambda hands: hands.run(spots_of(PLAN), 401),
                lambda hands: [hands.told(), hands.asked()]),
                (lambda: opened(), lambda shelf: shelf.ask_lot(0, 401), lambda shelf: [shelf.log(), shelf.place(0)]),
                (lambda: marked(), lambda kept: kept.back(3), lambda kept: [kept.marks(), kept.place()]),
                (lambda: Desk(), lambda desk: desk.say("row r p"), lambda desk: desk.say("names"))):
            made = make()
            before = shown(look(made))
            with self.assertRaises(Exception):
                call(made)
            self.assertEqual(shown(look(made)), before)
            self.assertEqual(shown(look(make())), before)

    def test_numbers_at_and_beyond_their_bounds(self):
        bounds = {
            "Lots.lot": ("many", 1, 400), "Hands": ("room", 1, 4), "Hands.run": ("many", 0, 400),
            "ends_by_turns": ("room", 1, 4),
            "shows_turns": ("many", 0, 400), "told_ahead": ("most", 1, 2000), "round_of": ("most", 1, 2000),
            "plain_told": ("many", 0, 400), "Shelf.ask_lot": ("many", 1, 400), "First": ("many", 0, 60),
            "Windows": ("many", 1, 8),
            "Matched": ("room", 1, 8), "Parted": ("many", 1, 6), "Kept": ("room", 1, 60), "log_due": ("many", 0, 400),
            "cheapest_paper": ("most", None, 2000), "cheapest": ("most", None, 2000),
        }
        for name, (param, low, high) in bounds.items():
            make, *params = CALLS[name]
            good = {each[0]: each[2] for each in params if each != "*"}
            for many in (low, high):
                if many is not None:
                    make()(**{**good, param: many})
            for many in (0 if low is None else low - 1, high + 1, True, False):
                self.check_refused(errors.NoNumber, {"found": many}, make(), **{**good, param: many})

    def test_the_same_question_has_an_equal_answer(self):
        for name, (make, *params) in CALLS.items():
            placed, named = self.split(params)
            answers = []
            for _ in range(2):
                call = make()
                answers.append(looked_at(call(*[each[2] for each in placed], **{each[0]: each[2] for each in named})))
            self.assertEqual(answers[0], answers[1], name)

    def test_what_was_handed_in_may_change_later(self):
        things, faults = [1, 2], {0: 1}
        source = Source(things, faults=faults)
        things.append(3)
        faults[1] = 2
        self.check_told(source.told(), ((1, 2), None, 1, ((0, 1),), False))
        order = spots_of(PLAN)
        hands = Hands(PLAN, full_shelf())
        hands.run(order, 1)
        order.clear()
        self.check_told(answer(hands.run, spots_of(PLAN), 1)[0], "thing")


class Fields(Case):
    def test_refusals_are_made_of_any_things(self):
        for name in ("NoNumber", "NoOrder", "NoLine", "NoPaper", "NotThere", "NotShut", "Begun"):
            for thing in odd_things():
                made = vars(errors)[name]
                self.assertIs(made(thing).found, thing)
                self.assertIs(made(found=thing).found, thing)


if __name__ == "__main__":
    unittest.main()
