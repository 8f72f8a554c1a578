"""Points 51 to 57: machines of two inputs, and the machine of a plan."""

import itertools
import unittest

from greatrows.deeds import is_deeds, turned_by
from greatrows.errors import NoDeeds, NoNumber, NoPlan, Over, TooMuch
from greatrows.joins import Behind, Beside, Else, Matched, Merged, machine_of
from greatrows.machines import (
    Chosen, First, Flat, Groups, Machine, Skip, Sums, Turned, Until, While, Windows,
)
from greatrows.plans import is_plan
from greatrows.things import is_whole, value_of
from helpers import Case, odd_things
from made_machines import check_alike, future, joined, shape, states
from made_plans import LEAVES, OF_ONE, OF_TWO, ONE_TEST, PLANS, TESTS

HALF = (("rest", 2),)
ROWS = ((), (1,), (0, 1, 2), (5, 3, 3, 4), (2, 4, 6, 8, 9), ((1, 2), 3, (), (3,)), (-4, -4, (1,), 1))


def machines():
    return [Behind(), Beside(), Merged(), Matched((), 1), Matched(HALF, 2), Matched(HALF, 8), Else()]


def told_of(machine):
    """All that a machine tells of itself but sure."""
    return [machine.wants(), machine.lying, machine.is_over(), machine.needless(), machine.held(), machine.rest()]


def merged_of(one, other):
    """Point 5 of whole lists: of the next things of both the one of the lesser value, of equal ones the first."""
    told = []
    one, other = list(one), list(other)
    while one and other:
        told.append((one if value_of(one[0]) <= value_of(other[0]) else other).pop(0))
    return [*told, *one, *other]


class WholeRows(Case):
    def test_each_machine_tells_what_is_told_of_whole_lists(self):
        for one, other in itertools.product(ROWS, ROWS):
            self.check_told(joined(Behind(), one, other), ([*one, *other], [len(one), len(other)]))
            self.check_told(joined(Beside(), one, other)[0], list(zip(one, other)))
            self.check_told(joined(Merged(), one, other), (merged_of(one, other), [len(one), len(other)]))
            self.check_told(joined(Else(), one, other), (list(one), [len(one), 0]))
            for deeds in ((), HALF, (("times", 0),)):
                pairs = [(x, y) for x in one for y in other if turned_by(deeds, x) == turned_by(deeds, y)]
                self.check_told(
                    joined(Matched(deeds, 8), one, other), (pairs, [len(one) if other else 0, len(other)]))

    def test_beside_takes_one_thing_of_0_more_where_1_ends_first(self):
        for one, other in itertools.product(ROWS, ROWS):
            many = min(len(one), len(other))
            taken = [min(len(one), many + 1), many]
            self.check_told(joined(Beside(), one, other)[1], taken)


class EachMachine(Case):
    def check_steps(self, machine, *steps):
        """Each step: a deed, at which input, the thing; what the machine tells of itself then."""
        for deed, at, thing, told in steps:
            if deed == "take":
                self.assertIs(machine.takes(at, thing), None)
            elif deed == "end":
                self.assertIs(machine.ends(at), None)
            elif deed == "fault":
                self.assertIs(machine.goes_on(at), thing)
            else:
                self.check_told(machine.gives(), thing)
            self.check_told(told_of(machine), told)

    def test_behind(self):
        self.check_steps(
            Behind(),
            ("take", 0, 5, [None, [5], False, [], 1, None]), ("give", 0, 5, [0, [], False, [], 0, None]),
            ("fault", 0, False, [0, [], False, [], 0, None]), ("end", 0, 0, [1, [], False, [], 0, None]),
            ("take", 1, (5,), [None, [(5,)], False, [], 1, None]), ("give", 0, (5,), [1, [], False, [], 0, None]),
            ("fault", 1, False, [1, [], False, [], 0, None]), ("end", 1, 0, [None, [], True, [], 0, None]))

    def test_beside_where_1_ends_first(self):
        self.check_steps(
            Beside(),
            ("take", 0, 5, [1, [], False, [], 1, None]), ("take", 1, (5,), [None, [(5, (5,))], False, [], 1, None]),
            ("give", 0, (5, (5,)), [0, [], False, [], 0, None]), ("take", 0, (), [1, [], False, [], 1, None]),
            ("fault", 1, False, [1, [], False, [], 1, None]), ("end", 1, 0, [None, [], True, [0], 1, ()]))

    def test_beside_where_0_ends_first(self):
        self.check_steps(
            Beside(),
            ("take", 0, 0, [1, [], False, [], 1, None]), ("take", 1, 1, [None, [(0, 1)], False, [], 1, None]),
            ("give", 0, (0, 1), [0, [], False, [], 0, None]), ("fault", 0, False, [0, [], False, [], 0, None]),
            ("end", 0, 0, [None, [], True, [1], 0, None]))

    def test_beside_with_a_rest_of_0(self):
        self.check_steps(
            Beside(), ("take", 0, 0, [1, [], False, [], 1, None]), ("end", 1, 0, [None, [], True, [0], 1, 0]))

    def test_merged(self):
        self.check_steps(
            Merged(),
            ("take", 0, 5, [1, [], False, [], 1, None]), ("take", 1, (5,), [None, [5], False, [], 2, None]),
            ("give", 0, 5, [0, [], False, [], 1, None]), ("take", 0, 7, [None, [(5,)], False, [], 2, None]),
            ("give", 0, (5,), [1, [], False, [], 1, None]), ("take", 1, 6, [None, [6], False, [], 2, None]),
            ("give", 0, 6, [1, [], False, [], 1, None]), ("end", 1, 0, [None, [7], False, [], 1, None]),
            ("give", 0, 7, [0, [], False, [], 0, None]), ("take", 0, 1, [None, [1], False, [], 1, None]),
            ("give", 0, 1, [0, [], False, [], 0, None]), ("fault", 0, False, [0, [], False, [], 0, None]),
            ("end", 0, 0, [None, [], True, [], 0, None]))

    def test_merged_where_0_ends_first(self):
        self.check_steps(
            Merged(),
            ("end", 0, 0, [1, [], False, [], 0, None]), ("take", 1, 0, [None, [0], False, [], 1, None]),
            ("give", 0, 0, [1, [], False, [], 0, None]), ("end", 1, 0, [None, [], True, [], 0, None]))
        machine = Merged()
        machine.takes(0, 3)
        machine.takes(1, 1)
        machine.gives()
        machine.takes(1, 4)
        self.check_steps(
            machine, ("give", 0, 3, [0, [], False, [], 1, None]), ("end", 0, 0, [None, [4], False, [], 1, None]))

    def test_matched(self):
        self.check_steps(
            Matched(HALF, 3),
            ("take", 1, 5, [1, [], False, [], 1, None]), ("take", 1, (1, 2), [1, [], False, [], 2, None]),
            ("take", 1, 4, [1, [], False, [], 3, None]), ("fault", 1, False, [1, [], False, [], 3, None]),
            ("end", 1, 0, [0, [], False, [], 3, None]), ("take", 0, 0, [None, [(0, 4)], False, [], 4, None]),
            ("give", 0, (0, 4), [0, [], False, [], 3, None]),
            ("take", 0, (7,), [None, [((7,), 5), ((7,), (1, 2))], False, [], 5, None]),
            ("give", 0, ((7,), 5), [None, [((7,), (1, 2))], False, [], 4, None]),
            ("give", 0, ((7,), (1, 2)), [0, [], False, [], 3, None]), ("fault", 0, False, [0, [], False, [], 3, None]),
            ("end", 0, 0, [None, [], True, [], 0, None]))

    def test_matched_without_a_key_of_its_own_compares_the_things(self):
        self.check_told(joined(Matched((), 8), [1, (1,), (1, ())], [(1,), 1, (1,)])[0],
                        [(1, 1), ((1,), (1,)), ((1,), (1,))])

    def test_matched_with_nothing_kept(self):
        self.check_steps(Matched((), 8), ("end", 1, 0, [None, [], True, [0], 0, None]))

    def test_matched_with_as_many_things_as_the_room_and_one_more(self):
        for room in (1, 2, 8):
            machine = Matched(deeds=(), room=room)
            for at in range(room):
                machine.takes(1, at)
            before = (machine.stands(), shape(machine))
            for _ in range(2):
                self.check_refused(TooMuch, {"many": room}, machine.takes, 1, 9)
                self.assertEqual((machine.stands(), shape(machine)), before)
            self.assertIs(machine.goes_on(1), False)
            machine.ends(1)
            self.check_told(told_of(machine), [0, [], False, [], room, None])

    def test_else_without_a_fault(self):
        self.check_steps(
            Else(),
            ("take", 0, 5, [None, [5], False, [], 1, None]), ("give", 0, 5, [0, [], False, [], 0, None]),
            ("end", 0, 0, [None, [], True, [1], 0, None]), ("fault", 0, False, [None, [], True, [1], 0, None]),
            ("fault", 1, False, [None, [], True, [1], 0, None]))

    def test_else_with_faults(self):
        self.check_steps(
            Else(),
            ("fault", 1, False, [0, [], False, [], 0, None]), ("fault", 0, True, [1, [], False, [0], 0, None]),
            ("fault", 0, False, [1, [], False, [0], 0, None]), ("fault", 1, False, [1, [], False, [0], 0, None]),
            ("take", 1, 6, [None, [6], False, [0], 1, None]), ("give", 0, 6, [1, [], False, [0], 0, None]),
            ("end", 1, 0, [None, [], True, [0], 0, None]), ("fault", 0, False, [None, [], True, [0], 0, None]))

    def test_a_new_machine(self):
        for machine in machines():
            wants = 1 if isinstance(machine, Matched) else 0
            self.check_told(told_of(machine), [wants, [], False, [], 0, None])
            self.check_told([machine.ready(), machine.is_done, machine.is_cut], [0, False, False])

    def test_arguments_by_name(self):
        for machine in machines():
            at = machine.wants()
            self.check_told(machine.sure(many=1), 1)
            self.assertIs(machine.takes(thing=4, at=at), None)
            self.assertEqual(machine.held(), 1)
            self.assertIs(machine.goes_on(at=1), False)
        machine = Behind()
        machine.ends(at=0)
        self.check_told(machine.wants(), 1)

    def test_sure(self):
        for machine in machines():
            for one in states(machine, 3):
                if one.wants() is not None:
                    many = 7 if isinstance(one, (Behind, Else)) else 1
                    self.check_told([one.sure(1), one.sure(7)], [1, many])

    def test_nothing_is_wanted_while_something_lies_ready_or_where_it_is_over(self):
        for machine in machines():
            for one in states(machine, 4, (1, 2)):
                self.assertEqual(one.wants() is None, one.ready() > 0 or one.is_over())
                self.assertEqual(len(one.lying), one.ready())
                self.assertEqual(one.is_over(), one.is_done and not one.lying)
                if one.ready() == 0:
                    self.check_refused(Over, {}, one.gives)

    def test_needless_is_a_new_list_each_time(self):
        machine = Beside()
        machine.ends(0)
        machine.needless().append(0)
        self.check_told(machine.needless(), [1])


class StandsAndTwins(Case):
    def test_stands_are_equal_just_where_all_that_comes_is(self):
        for made in ([Behind()], [Beside()], [Merged()], [Matched((), 1), Matched((), 2)], [Matched(HALF, 2)], [Else()]):
            check_alike(self, [state for machine in made for state in states(machine, 4, (0, 1))])

    def test_the_order_of_what_is_kept_decides_among_things_of_one_key_alone(self):
        for deeds, one, other, alike in (
                (HALF, (1, 2, 3), (2, 1, 3), True), (HALF, (1, 2, 3), (3, 2, 1), False), ((), (1, (1,)), ((1,), 1), True),
                (HALF, (1, (1,)), ((1,), 1), False), (HALF, (1, 2), (1, 4), False), ((), (10, 9), (9, 10), True)):
            stands = []
            for things in (one, other):
                machine = Matched(deeds, 8)
                for thing in things:
                    machine.takes(1, thing)
                stands.append(machine.stands())
            self.assertEqual(stands[0] == stands[1], alike)

    def test_nothing_decides_behind_an_end_but_what_is_told_yet(self):
        for machine in (Behind(), Merged(), Matched(HALF, 4)):
            ends = []
            for one, other in (((1,), (2,)), ((1, 1, 5), (3, 4)), ((), (5,))):
                twin = machine.twin()
                joined(twin, one, other)
                ends.append(twin.stands())
            self.assertEqual(ends, [ends[0]] * 3)
        ends = []
        for one in ((1, 2), (2,), (1, 3)):
            twin = Beside()
            joined(twin, one, (4,) * (len(one) - 1))
            ends.append(twin.stands())
        self.assertEqual(ends[0], ends[1])
        self.assertNotEqual(ends[0], ends[2])

    def test_a_room_decides_nothing_behind_the_end_of_1(self):
        stands = []
        for room in (2, 3):
            machine = Matched(HALF, room)
            machine.takes(1, 5)
            stands.append(machine.stands())
            machine.ends(1)
            stands.append(machine.stands())
        self.assertNotEqual(stands[0], stands[2])
        self.assertEqual(stands[1], stands[3])
        self.assertNotEqual(stands[0], stands[1])

    def test_a_twin_goes_its_own_way(self):
        for machine in machines():
            for one in states(machine, 3, (0, (1,))):
                before = (future(one, 2), one.stands())
                twin = one.twin()
                again = one.twin()
                self.assertIs(twin.__class__, one.__class__)
                self.assertEqual((future(twin, 2), twin.stands()), before)
                self.run_on(twin)
                self.assertEqual((future(one, 2), one.stands()), before)
                self.run_on(one)
                self.assertEqual((future(again, 2), again.stands()), before)

    @staticmethod
    def run_on(machine):
        for _ in range(3):
            if machine.ready():
                machine.gives()
            elif machine.wants() is not None and machine.held() < 1:
                machine.takes(machine.wants(), 6)
        joined(machine, (), ())

    def test_bare_and_own(self):
        for machine, new in zip(machines(), machines()):
            for one in states(machine, 3):
                bare = one.bare()
                self.assertIs(bare.__class__, one.__class__)
                self.assertEqual((shape(bare), bare.stands(), future(bare, 3)), (shape(new), new.stands(), future(new, 3)))
                self.assertIsInstance(one.own(), tuple)

    def test_a_machine_is_cut_where_nothing_more_is_wanted_ahead_of_an_end(self):
        for machine, ends, cut in (
                (Behind(), (0, 1), False), (Beside(), (0,), True), (Merged(), (0, 1), False), (Matched((), 1), (1,), True),
                (Else(), (0,), True)):
            self.assertIs(machine.is_cut, False)
            for at in ends:
                machine.ends(at)
            self.check_told([machine.is_done, machine.is_cut], [True, cut])
        machine = Matched((), 1)
        machine.takes(1, 1)
        machine.ends(1)
        machine.ends(0)
        self.check_told([machine.is_done, machine.is_cut], [True, False])
        machine = Else()
        machine.goes_on(0)
        machine.ends(1)
        self.check_told([machine.is_done, machine.is_cut], [True, False])

    def test_they_stand_under_machine(self):
        for machine in machines():
            self.assertEqual(machine.__class__.__bases__, (Machine,))


class Refused(Case):
    def test_matched(self):
        for thing in odd_things():
            if not is_deeds(thing):
                for room in (1, 0, None, True):
                    self.check_refused(NoDeeds, {"found": thing}, Matched, thing, room)
                self.check_refused(NoDeeds, {"found": thing}, Matched, room=9, deeds=thing)
            if not is_whole(thing, 1, 8):
                self.check_refused(NoNumber, {"found": thing}, Matched, (), thing)
                self.check_refused(NoNumber, {"found": thing}, Matched, room=thing, deeds=HALF)
        for room in (0, 9, -1, True, 10 ** 29):
            self.check_refused(NoNumber, {"found": room}, Matched, HALF, room)
        Matched(HALF, 1)
        Matched(HALF, 8)

    def test_what_is_no_plan(self):
        for thing in odd_things():
            if not is_plan(thing):
                self.check_refused(NoPlan, {"found": thing}, machine_of, thing)
                self.check_refused(NoPlan, {"found": thing}, machine_of, plan=thing)


class MachineOf(Case):
    def test_none_of_a_leaf(self):
        for plan in LEAVES:
            self.assertIs(machine_of(plan), None)
            self.assertIs(machine_of(plan=plan), None)

    def test_each_kind(self):
        leaf = ("from", "a")
        kinds = {
            "turned": Turned, "chosen": Chosen, "while": While, "until": Until, "first": First, "skip": Skip,
            "windows": Windows, "groups": Groups, "sums": Sums, "flat": Flat,
        }
        for head in OF_ONE:
            self.check_same(machine_of((*head, leaf)), kinds[head[0]](*head[1:]))
        kinds = {"behind": Behind, "beside": Beside, "merged": Merged, "matched": Matched, "else": Else}
        for head in OF_TWO:
            self.check_same(machine_of((*head, leaf, ("sums", leaf))), kinds[head[0]](*head[1:]))
        self.check_same(machine_of(("while", ONE_TEST, leaf)), While(ONE_TEST))
        self.check_same(machine_of(("until", TESTS, leaf)), Until(TESTS))

    def check_same(self, machine, other):
        self.assertIs(machine.__class__, other.__class__)
        self.assertEqual(machine.stands(), other.stands())
        self.assertEqual(future(machine, 3), future(other, 3))

    def test_a_new_one_each_time(self):
        for plan in PLANS:
            machine = machine_of(plan)
            if machine is not None and machine.wants() is not None:
                stand = machine.stands()
                machine.ends(machine.wants())
                self.assertEqual(machine_of(plan).stands(), stand)


if __name__ == "__main__":
    unittest.main()
