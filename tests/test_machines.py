"""Points 41 to 47: machines of one input."""

import itertools
import unittest

from greatrows.deeds import is_deeds, is_tests, tests_hold, turned_by
from greatrows.errors import NoDeeds, NoNumber, NoTests, Over
from greatrows.machines import (
    Chosen, First, Flat, Groups, Machine, Skip, Sums, Turned, Until, While, Windows,
)
from greatrows.things import is_whole, value_of
from helpers import Case, odd_things
from made_machines import check_alike, fed, future, shape, states

ODD = (((("rest", 2),), "is", 1, True),)
BELOW = (((), "below", 3, True), ((), "is", 1, False))
HALF = (("rest", 2),)
DOUBLED = (("times", 2), ("add", 1))
NUMBERS = tuple(range(70))
ROWS = (
    (), (1,), (0, 1, 2), (5, 3, 3, 4, 1, 1), (2,) * 17, NUMBERS, (1, (1,), (2, 3), (), ((1, 2), 3), -4),
    ((), (), 0), ((1, 1), 2, 4, 6, (3, 3), 1), (0, 2, 4, 6, 1, 3, 5, 2), (7, -7, 7), (1,) * 8, (1,) * 9 + (3,) * 8,
)


def groups_of(deeds, things):
    told = []
    for _, same in itertools.groupby(things, lambda thing: turned_by(deeds, thing)):
        same = list(same)
        told.extend([tuple(same[at:at + 8]) for at in range(0, len(same), 8)])
    return told


def until_of(tests, things):
    ahead = list(itertools.takewhile(lambda thing: not tests_hold(tests, thing), things))
    return [*ahead, *things[len(ahead):len(ahead) + 1]]


# Each kind with what it is made of, and with what point 5 says of whole lists.
KINDS = (
    *[(Turned, (deeds,), lambda row, deeds=deeds: [turned_by(deeds, thing) for thing in row])
      for deeds in ((), HALF, DOUBLED)],
    *[(Chosen, (tests,), lambda row, tests=tests: [thing for thing in row if tests_hold(tests, thing)])
      for tests in (ODD, BELOW)],
    *[(While, (tests,), lambda row, tests=tests: list(itertools.takewhile(lambda x: tests_hold(tests, x), row)))
      for tests in (ODD, BELOW)],
    *[(Until, (tests,), lambda row, tests=tests: until_of(tests, row)) for tests in (ODD, BELOW)],
    *[(First, (many,), lambda row, many=many: list(row[:many])) for many in (0, 1, 2, 3, 59, 60)],
    *[(Skip, (many,), lambda row, many=many: list(row[many:])) for many in (0, 1, 2, 3, 59, 60)],
    *[(Windows, (many,), lambda row, many=many: [row[at:at + many] for at in range(len(row) - many + 1)])
      for many in (1, 2, 3, 7, 8)],
    *[(Groups, (deeds,), lambda row, deeds=deeds: groups_of(deeds, row)) for deeds in ((), HALF)],
    (Sums, (), lambda row: list(itertools.accumulate([value_of(thing) for thing in row]))),
    (Flat, (), lambda row: [part for thing in row for part in (thing if isinstance(thing, tuple) else (thing,))]),
)


def machines():
    return [kind(*told) for kind, told, _ in KINDS]


class WholeRows(Case):
    def test_each_machine_tells_what_is_told_of_whole_lists(self):
        for (kind, told, whole), row in itertools.product(KINDS, ROWS):
            self.check_told(fed(kind(*told), row)[0], whole(row))

    def test_each_thing_comes_as_soon_as_it_can(self):
        for (kind, told, whole), row in itertools.product(KINDS, ROWS):
            came = fed(kind(*told), row, ended=False)[0]
            if kind is Groups:
                # A group comes at its eighth thing, or at the next one behind it.
                full = whole(row)
                came_full = [*full[:-1], *[group for group in full[-1:] if len(group) == 8]]
                self.check_told(came, came_full)
            else:
                self.check_told(came, whole(row))

    def test_no_thing_is_taken_behind_what_is_needed(self):
        for row in ROWS:
            for many in (0, 1, 2, 60):
                self.assertEqual(fed(First(many), row)[1], min(many, len(row)))
            for tests in (ODD, BELOW):
                ahead = fed(While(tests), row)[0]
                self.assertEqual(fed(While(tests), row)[1], min(len(ahead) + 1, len(row)))
                self.assertEqual(fed(Until(tests), row)[1], len(until_of(tests, row)))
            for kind in (Turned(HALF), Chosen(ODD), Skip(3), Windows(3), Groups(HALF), Sums(), Flat()):
                self.assertEqual(fed(kind, row)[1], len(row))


class Wants(Case):
    def test_a_machine_wants_0_but_where_something_lies_ready_or_where_it_is_over(self):
        for machine in machines():
            for one in states(machine, 4, (1, 2, (1, 3))):
                if one.ready() or one.is_over():
                    self.assertIs(one.wants(), None)
                else:
                    self.check_told(one.wants(), 0)
                if one.is_over():
                    self.assertEqual(one.ready(), 0)
                    self.assertIs(one.is_done, True)

    def test_a_new_machine(self):
        for machine in machines():
            cut = isinstance(machine, First) and machine.wants() is None
            self.check_told(
                [machine.wants(), machine.ready(), machine.is_over(), machine.needless(), machine.held(), machine.rest()],
                [None if cut else 0, 0, cut, [0] if cut else [], 0, None])
            self.check_told([machine.lying, machine.is_done, machine.is_cut], [[], cut, cut])

    def test_an_ended_machine(self):
        for machine in machines():
            if machine.wants() is None:
                continue
            self.assertIs(machine.ends(0), None)
            self.check_told(
                [machine.wants(), machine.ready(), machine.is_over(), machine.needless(), machine.held(), machine.rest()],
                [None, 0, True, [], 0, None])
            self.check_told([machine.lying, machine.is_done, machine.is_cut], [[], True, False])

    def test_takes_tells_nothing_by_place_and_by_name(self):
        for machine in machines():
            if machine.wants() == 0:
                twin = machine.twin()
                self.assertIs(machine.takes(0, 1), None)
                self.assertIs(twin.takes(thing=1, at=0), None)
                self.assertEqual(shape(machine), shape(twin))
                self.assertIs(machine.goes_on(at=0), False)
                self.assertIs(machine.goes_on(1), False)

    def test_what_is_asked_for_where_none_lies_ready(self):
        for machine in machines():
            for one in states(machine, 2):
                if one.ready() == 0:
                    before = shape(one), one.stands()
                    self.check_refused(Over, {}, one.gives)
                    self.assertEqual((shape(one), one.stands()), before)


class StepByStep(Case):
    def check_steps(self, machine, *steps):
        """Each step: what is taken, or None for the end; what lies ready then; wants, over, needless, held."""
        for thing, ready, *told in steps:
            if thing is None:
                machine.ends(0)
            elif thing == "give":
                machine.gives()
            else:
                machine.takes(0, thing)
            self.check_told(machine.lying, ready)
            self.assertEqual(machine.ready(), len(ready))
            self.check_told([machine.wants(), machine.is_over(), machine.needless(), machine.held()], told)

    def test_while_at_the_thing_that_ends_it(self):
        self.check_steps(
            While(ODD), (1, [1], None, False, [], 1), ("give", [], 0, False, [], 0), (2, [], None, True, [0], 0))
        self.check_steps(While(ODD), (2, [], None, True, [0], 0))

    def test_until_at_the_thing_that_ends_it(self):
        self.check_steps(
            Until(ODD), (2, [2], None, False, [], 1), ("give", [], 0, False, [], 0), (1, [1], None, False, [0], 1),
            ("give", [], None, True, [0], 0))

    def test_first(self):
        self.check_steps(
            First(2), ((), [()], None, False, [], 1), ("give", [], 0, False, [], 0), (7, [7], None, False, [0], 1),
            ("give", [], None, True, [0], 0))
        machine = First(0)
        self.check_told([machine.wants(), machine.is_over(), machine.needless(), machine.held()], [None, True, [0], 0])
        machine = First(60)
        for at in range(60):
            self.check_told([machine.wants(), machine.needless()], [0, []])
            machine.takes(0, at)
            self.check_told([machine.wants(), machine.needless()], [None, [0] if at == 59 else []])
            self.check_told(machine.gives(), at)
        self.assertIs(machine.is_over(), True)

    def test_skip(self):
        machine = Skip(60)
        for at in range(60):
            machine.takes(0, at)
            self.check_told([machine.wants(), machine.ready(), machine.held()], [0, 0, 0])
        machine.takes(0, 60)
        self.check_told([machine.lying, machine.held()], [[60], 1])
        self.check_steps(Skip(0), (4, [4], None, False, [], 1), ("give", [], 0, False, [], 0))

    def test_windows(self):
        self.check_steps(
            Windows(3), (1, [], 0, False, [], 1), ((2,), [], 0, False, [], 2), (3, [(1, (2,), 3)], None, False, [], 3),
            ("give", [], 0, False, [], 2), (4, [((2,), 3, 4)], None, False, [], 3), ("give", [], 0, False, [], 2),
            (None, [], None, True, [], 2))
        self.check_steps(
            Windows(1), (1, [(1,)], None, False, [], 1), ("give", [], 0, False, [], 0), (None, [], None, True, [], 0))
        machine = Windows(8)
        for at in range(7):
            machine.takes(0, at)
            self.check_told([machine.ready(), machine.held()], [0, at + 1])
        twin = machine.twin()
        twin.ends(0)
        self.check_told([twin.is_over(), twin.held(), twin.needless()], [True, 7, []])
        machine.takes(0, 7)
        self.check_told([machine.lying, machine.held()], [[(0, 1, 2, 3, 4, 5, 6, 7)], 8])

    def test_groups(self):
        self.check_steps(
            Groups(HALF), (2, [], 0, False, [], 1), ((1, 3), [], 0, False, [], 2),
            (1, [(2, (1, 3))], None, False, [], 2), ("give", [], 0, False, [], 1), (None, [(1,)], None, False, [], 1),
            ("give", [], None, True, [], 0))
        machine = Groups(())
        for at in range(7):
            machine.takes(0, (5,))
            self.check_told([machine.wants(), machine.ready(), machine.held()], [0, 0, at + 1])
        machine.takes(0, (5,))
        self.check_told([machine.lying, machine.held()], [[((5,),) * 8], 1])
        twin = machine.twin()
        self.check_told(machine.gives(), ((5,),) * 8)
        self.check_steps(machine, ((5,), [], 0, False, [], 1), (5, [((5,),)], None, False, [], 2))
        twin.gives()
        self.check_steps(twin, (None, [], None, True, [], 0))

    def test_groups_compare_keys_with_the_last_one_of_a_group_as_with_the_first(self):
        self.check_told(fed(Groups((("add", 0),)), [1, (1,), (0, 1), 2])[0], [(1, (1,), (0, 1)), (2,)])
        self.check_told(fed(Groups(()), [1, (1,), (1,), 1])[0], [(1,), ((1,), (1,)), (1,)])

    def test_flat(self):
        self.check_steps(
            Flat(), ((), [], 0, False, [], 0), ((1, (2, 3)), [1, (2, 3)], None, False, [], 2),
            ("give", [(2, 3)], None, False, [], 1), ("give", [], 0, False, [], 0), (7, [7], None, False, [], 1))

    def test_sums(self):
        self.check_steps(
            Sums(), ((4, (1,)), [5], None, False, [], 1), ("give", [], 0, False, [], 0), (-7, [-2], None, False, [], 1))
        self.check_told(fed(Sums(), [10 ** 29, 10 ** 29, ()])[0], [10 ** 29, 2 * 10 ** 29, 2 * 10 ** 29])

    def test_turned_and_chosen(self):
        self.check_steps(Turned(()), (((1,), ()), [((1,), ())], None, False, [], 1))
        self.check_steps(Turned(DOUBLED), (((1,), 2), [7], None, False, [], 1))
        self.check_steps(Chosen(ODD), (2, [], 0, False, [], 0), ((1, 2), [(1, 2)], None, False, [], 1))

    def test_needless_and_what_is_told_as_a_list_is_the_askers_own(self):
        machine = First(0)
        machine.needless().append(1)
        self.check_told(machine.needless(), [0])
        machine = Flat()
        machine.needless().append(0)
        self.check_told(machine.needless(), [])


class Sure(Case):
    def test_how_many(self):
        for many in (1, 2, 7, 10 ** 9):
            self.check_told([Turned(()).sure(many), Sums().sure(many), Chosen(ODD).sure(many=many)], [many] * 3)
            self.check_told([While(ODD).sure(many), Until(ODD).sure(many), Groups(()).sure(many), Flat().sure(many)], [1] * 4)
            self.check_told([Skip(0).sure(many), Skip(5).sure(many), Skip(60).sure(many)], [many, many + 5, many + 60])
            self.check_told([First(1).sure(many), First(60).sure(many)], [1, min(many, 60)])
            self.check_told([Windows(1).sure(many), Windows(2).sure(many), Windows(8).sure(many)],
                            [many, many + 1, many + 7])

    def test_how_many_are_left(self):
        for kind, many, told in (
                (Skip, 3, [6, 5, 4, 3, 3]), (Windows, 3, [5, 4, 3, 3]), (First, 4, [3, 3, 2, 1]), (First, 3, [3, 2, 1])):
            machine = kind(many)
            found = []
            for at in range(len(told)):
                found.append(machine.sure(3))
                machine.takes(0, at)
                while machine.ready():
                    machine.gives()
            self.check_told(found, told)
        machine = Groups(())
        machine.takes(0, 1)
        self.check_told(machine.sure(4), 1)

    def test_fewer_things_are_never_enough(self):
        for machine in machines():
            for one in states(machine, 2):
                if one.wants() is not None:
                    self.check_enough(one, one, 0, 0)

    def check_enough(self, begin, machine, taken, came):
        """For as many things as came since the begin it wasn't sure of more than were taken since."""
        if came:
            self.assertLessEqual(begin.sure(came), taken)
        if taken == 4 or machine.wants() is None:
            return
        for thing in (0, 1, (1, 2)):
            twin = machine.twin()
            twin.takes(0, thing)
            ready = twin.ready()
            while twin.ready():
                twin.gives()
            self.check_enough(begin, twin, taken + 1, came + ready)


class Stands(Case):
    def test_stands_are_equal_just_where_all_that_comes_is(self):
        for told_of in (
                [Turned(()), Turned(HALF), Turned(DOUBLED)], [Chosen(ODD), Chosen(BELOW)], [While(ODD), While(BELOW)],
                [Until(ODD), Until(BELOW)], [First(many) for many in range(4)], [Skip(many) for many in range(4)],
                [Windows(many) for many in (1, 2, 3)], [Groups(()), Groups(HALF)], [Sums()], [Flat()]):
            check_alike(self, [state for machine in told_of for state in states(machine, 3)])

    def test_long_ways(self):
        machine = Groups(())
        stands = []
        for _ in range(16):
            machine.takes(0, 1)
            while machine.ready():
                machine.gives()
            stands.append(machine.stands())
        self.assertEqual(len({repr(stand) for stand in stands}), 8)
        self.assertEqual(stands[:8], stands[8:])
        for one, other in ((First, First), (Skip, Skip)):
            machines_of = [one(60), other(59)]
            machines_of[0].takes(0, 5)
            while machines_of[0].ready():
                machines_of[0].gives()
            self.assertEqual(machines_of[0].stands(), machines_of[1].stands())
            self.assertNotEqual(one(60).stands(), other(59).stands())
        machine = Windows(8)
        for at in range(20):
            machine.takes(0, at % 8)
            while machine.ready():
                machine.gives()
            if at == 10:
                stand = machine.stands()
        self.assertEqual(machine.stands(), (machine.twin()).stands())
        self.assertNotEqual(machine.stands(), stand)

    def test_nothing_decides_behind_an_end_but_what_is_told_yet(self):
        for machine in (Sums(), First(9), Skip(9), Turned(HALF), Groups(())):
            ends = []
            for things in ((), (1,), (1, 1), (4, 5, 6)):
                twin = machine.twin()
                fed(twin, things)
                ends.append(twin.stands())
            self.assertEqual(ends, [ends[0]] * 4)
        ends = []
        for things in ((), (1,), (2,), (1, 2), (3, 4, 5)):
            twin = Windows(3)
            fed(twin, things)
            ends.append(twin.stands())
        self.assertEqual([ends[1], ends[3]], [ends[2], ends[4]])
        self.assertEqual(len(set(ends)), 3)


class Twins(Case):
    def test_a_twin_goes_its_own_way(self):
        for machine in machines():
            for one in states(machine, 3):
                before = (future(one, 2), one.stands())
                twin = one.twin()
                self.assertIs(twin.__class__, one.__class__)
                self.assertEqual((future(twin, 2), twin.stands()), before)
                if twin.ready():
                    twin.gives()
                fed(twin, (6, 6, 1, (1, 1)))
                self.assertEqual((future(one, 2), one.stands()), before)

    def test_the_one_behind_the_twin_goes_its_own_way_too(self):
        for machine in machines():
            for one in states(machine, 3):
                before = (future(one, 2), one.stands())
                twin = one.twin()
                fed(one, (5, 6, 7, 8), ended=True)
                self.assertEqual((future(twin, 2), twin.stands()), before)


class ForOtherStages(Case):
    def test_lying_done_and_cut(self):
        for machine in machines():
            for one in states(machine, 3):
                self.assertIs(one.lying.__class__, list)
                self.assertEqual(len(one.lying), one.ready())
                self.assertEqual(one.is_over(), one.is_done and not one.lying)
                self.assertEqual(one.is_cut, one.needless() == [0])

    def test_stop(self):
        for machine in machines():
            self.assertIs(machine.stop(), None)
            self.check_told([machine.is_done, machine.is_cut, machine.wants(), machine.needless(), machine.is_over()],
                            [True, True, None, [0], True])

    def test_bare(self):
        for machine, new in zip(machines(), machines()):
            stand = new.stands()
            for one in states(machine, 3):
                bare = one.bare()
                self.assertIs(bare.__class__, one.__class__)
                self.assertEqual((shape(bare), bare.stands()), (shape(new), stand))

    def test_own_is_a_tuple(self):
        for machine in machines():
            for one in states(machine, 2):
                self.assertIsInstance(one.own(), tuple)
                self.assertEqual(one.twin().own(), one.own())

    def test_a_machine_by_itself(self):
        for one in states(Machine(), 3):
            self.assertIs(one.twin().__class__, Machine)
            self.assertEqual((shape(one.twin()), one.twin().stands()), (shape(one), one.stands()))
            self.assertIs(one.rest(), None)
            self.check_told(one.needless(), [])
        self.check_told(fed(Machine(), [1, (2,)])[0], [1, (2,)])
        self.check_told(Machine().sure(3), 1)


class Refused(Case):
    def test_what_machines_are_made_of(self):
        for thing in odd_things():
            for kind in (Turned, Groups):
                if not is_deeds(thing):
                    self.check_refused(NoDeeds, {"found": thing}, kind, thing)
                    self.check_refused(NoDeeds, {"found": thing}, kind, deeds=thing)
            for kind in (Chosen, While, Until):
                if not is_tests(thing):
                    self.check_refused(NoTests, {"found": thing}, kind, thing)
                    self.check_refused(NoTests, {"found": thing}, kind, tests=thing)
            for kind, low, high in ((First, 0, 60), (Skip, 0, 60), (Windows, 1, 8)):
                if not is_whole(thing, low, high):
                    self.check_refused(NoNumber, {"found": thing}, kind, thing)
                    self.check_refused(NoNumber, {"found": thing}, kind, many=thing)

    def test_numbers_at_and_beyond_their_bounds(self):
        for kind in (First, Skip):
            for many in (0, 60):
                kind(many)
            for many in (-1, 61, 10 ** 29, True, False):
                self.check_refused(NoNumber, {"found": many}, kind, many)
        for many in (1, 8):
            Windows(many)
        for many in (0, 9, -1, True):
            self.check_refused(NoNumber, {"found": many}, Windows, many)

    def test_kinds_stand_under_machine(self):
        for kind, _, _ in KINDS:
            self.assertEqual(kind.__bases__, (Machine,))


if __name__ == "__main__":
    unittest.main()
