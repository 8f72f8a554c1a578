"""Point 9: what the whole program promises, sentence by sentence, for drawn plans and shelves."""

import unittest

from greatrows.ahead import round_of, shows_round, told_ahead, what_matters
from greatrows.alike import parted_by, shows_parted
from greatrows.deeds import deeds_text, read_deeds, read_tests, tests_text
from greatrows.errors import TooMuch
from greatrows.hands import Hands
from greatrows.keeping import Kept
from greatrows.lots import Lots
from greatrows.orders import ends_by_turns
from greatrows.parted import Kinds, Parted
from greatrows.plain import needs_told, plain_told
from greatrows.plans import names_in, nodes_in, renamed, spots_of
from greatrows.plantext import plan_text, read_plan
from greatrows.rewriting import cheapest, cheapest_paper, cost_of, rewritten, rules_at, shows_cheapest
from greatrows.rows import row_of
from greatrows.runlogs import first_unlike, log_due
from greatrows.shelves import Shelf
from greatrows.sources import Source
from helpers import Case, answer, shelf_of
from made_plans import EDGES, PLANS
from made_runs import ON, drawn_order
from model import DEEDS, TESTS, runs

MANY = 12


def by_row(row, many):
    """The things that so many asks tell, and how it goes on, waits left out; None where it waits for long."""
    things = []
    waits = 0
    while len(things) < many:
        came = answer(row.ask)
        if came[0] == "thing":
            things.append(came[1])
        elif came[0] != "waits":
            return things, came
        waits += came[0] == "waits"
        if waits > 3:
            return None
    return things, None


def by_lots(chance, lots, many):
    """Likewise, by lots of drawn sizes."""
    things = []
    waits = 0
    while len(things) < many:
        came = answer(lots.lot, chance.randint(1, many - len(things)))
        if came[0] == "thing":
            things.extend(came[1])
        elif came[0] != "waits":
            return things, came
        waits += came[0] == "waits"
        if waits > 3:
            return None
    return things, None


def by_hands(chance, hands, spots, many):
    """Likewise, by hands in a drawn order of turns."""
    for _ in range(4000):
        if len(hands.told()) >= many or hands.ending() is not None:
            return hands.told(), hands.ending()
        hands.turn(chance.choice(spots))
    return None


def by_order(hands, order, many):
    """Likewise, by hands in an order of turns, again and again."""
    return None if hands.run(order, many) == 2000 else (hands.told(), hands.ending())


def moved(names):
    return {name: {"a": "z", "b": "a", "c": "b"}.get(name, name + "x") for name in names}


def shelf_moved(shelf):
    """The same sources, called otherwise."""
    return shelf_of(**{moved([name])[name]: shelf.source(name) for name in shelf.names()})


class Promise(Case):
    def test_each_plan_tells_alike_one_by_one_by_lots_and_by_hands(self):
        told = 0
        for chance, plan, shelf in runs(600, seed=901):
            expected = by_row(row_of(plan, shelf.copied()), MANY)
            if expected is None:
                continue
            told += 1
            things, word = plain_told(plan, shelf, MANY)
            self.check_told(things, expected[0])
            self.assertEqual(word, {None: "more", "over": "over"}.get(expected[1] and expected[1][0], "fault"))
            self.check_told(by_lots(chance, Lots(plan, shelf.copied()), MANY), expected)
            hands = [Hands(plan, shelf.copied(), room=chance.randint(1, 4)) for _ in range(2)]
            for came in (by_hands(chance, hands[0], spots_of(plan), MANY),
                         by_order(hands[1], drawn_order(chance, spots_of(plan)), MANY)):
                if came is not None:
                    self.check_told(came, expected)
        self.assertGreater(told, 500)

    def test_in_every_order_of_turns_of_small_plans(self):
        for chance, plan, shelf in runs(120, seed=902, most=3):
            if plain_told(plan, shelf, MANY)[1] == "open":
                continue
            many = chance.randint(0, 3)
            expected = by_row(row_of(plan, shelf.copied()), many)
            self.check_told(ends_by_turns(plan, shelf, many)[0], [expected])

    def test_of_a_source_just_as_many_things_are_asked_as_are_needed(self):
        for chance, plan, shelf in runs(400, seed=903):
            many = chance.randint(0, MANY)
            if plain_told(plan, shelf, many)[1] == "open":
                continue
            needs = needs_told(plan, shelf, many)
            row, lots = row_of(plan, shelf.copied()), Lots(plan, shelf.copied())
            one, other = by_row(row, many), by_lots(chance, lots, many)
            if one is None or other is None:
                continue
            self.check_told([row.asked(), lots.asked()], [needs, needs])

    def test_by_hands_at_most_those_that_rooms_hold_more(self):
        # Each hand between takes at most what lies in its row and what its machine holds more than is needed.
        for head in (("turned", ()), ("sums",), ("first", 60), ("skip", 2), ("while", (((), "below", 10 ** 9, True),))):
            for room in (1, 2, 3, 4):
                shelf = shelf_of(a=Source([0], then=ON))
                plan = (*head, ("turned", ON, ("from", "a")))
                for many in (1, 5):
                    hands = Hands(plan, shelf, room=room)
                    hands.run(sorted(spots_of(plan), reverse=True), many)
                    needed = sum(needs_told(plan, shelf, many).values())
                    self.assertLessEqual(sum(hands.asked().values()), needed + 2 * room + 2)
                    self.assertLessEqual(hands.asked()[(0, 0)], needed + 2 * (room + 1))

    def test_a_fault_stands_at_its_thing_and_goes_out_once(self):
        for faults in (1, 2, 9, None):
            for at in (0, 1, 7):
                shelf = shelf_of(a=Source([5], then=ON, faults={at: faults}, page=3))
                ahead = [5 + each for each in range(at)]
                for plan in (("from", "a"), ("turned", (), ("again", 5, "a"))):
                    fails = plan[0] == "from" or faults in (9, None)
                    expected = (ahead, ("fault", "a", at)) if fails else ([5 + each for each in range(MANY)], None)
                    row, lots = row_of(plan, shelf.copied()), Lots(plan, shelf.copied())
                    hands = Hands(plan, shelf.copied(), room=2)
                    self.check_told(by_row(row, MANY), expected)
                    self.check_told([answer(row.ask) for _ in range(2)] if fails else [],
                        [("over",)] * 2 if fails else [])
                    came = answer(lots.lot, MANY)
                    if fails and at:
                        self.check_told([came, answer(lots.lot, MANY)], [("thing", ahead), expected[1]])
                    else:
                        self.check_told(came, expected[1] or ("thing", expected[0]))
                    self.check_told(answer(lots.lot, 1)[0], "over" if fails else "thing")
                    hands.run(spots_of(plan), MANY)
                    self.check_told([hands.told(), hands.ending()], list(expected))
                    if fails:
                        self.check_told([hands.turn(spot) for spot in spots_of(plan)], [False] * len(spots_of(plan)))

    def test_a_thing_that_is_tried_again_is_told_once_and_none_is_left_out(self):
        for chance, _, _ in runs(60, seed=904):
            faults = {chance.randint(0, 30): chance.randint(1, 5) for _ in range(6)}
            shelf = shelf_of(a=Source([0], then=ON, faults=faults, page=chance.randint(1, 8)))
            plan = ("again", 5, "a")
            hands = Hands(plan, shelf.copied())
            hands.run([()], 31)
            for told in (by_row(row_of(plan, shelf.copied()), 31)[0], by_lots(chance, Lots(plan, shelf.copied()),
                    31)[0], hands.told()):
                self.check_told(told, list(range(31)))

    def test_each_opened_reading_is_shut_once_the_one_opened_last_first(self):
        for chance, plan, shelf in runs(400, seed=905):
            row, lots, hands = row_of(plan, shelf), Lots(plan, shelf), Hands(plan, shelf, room=2)
            for _ in range(chance.randint(0, 6)):
                answer(row.ask)
                answer(lots.lot, chance.randint(1, 4))
                hands.run(spots_of(plan), min(400, len(hands.told()) + 1))
            for run in (row, lots, hands):
                before = len(shelf.log())
                answer(run.close)
                shut = [each[1] for each in shelf.log()[before:]]
                self.assertEqual(shut, sorted(shut, reverse=True))
            self.assertEqual(shelf.open_ones(), [])
            opened = [each[1] for each in shelf.log() if each[0] == "open"]
            self.assertEqual(sorted(each[1] for each in shelf.log() if each[0] in ("shut", "badly")), opened)
            badly = [shelf.name_of(each[1]) for each in shelf.log() if each[0] == "badly"]
            self.assertEqual(sorted(row.not_shut() + lots.not_shut() + hands.not_shut()), sorted(badly))

    def test_parted_and_kept_rows(self):
        for chance, plan, shelf in runs(150, seed=906):
            expected = by_row(row_of(plan, shelf.copied()), MANY)
            if expected is None:
                continue
            kept = Kept(row_of(plan, shelf.copied()))
            mark = kept.mark()
            self.check_told(by_row(kept, MANY), expected)
            kept.back(mark)
            self.check_told(by_row(kept, MANY), expected)
            kept.back(mark)
            kept.release(mark)
            parted = Parted(kept, 3)
            told = [[], [], []]
            while min(map(len, told)) < len(expected[0]):
                at = chance.choice([at for at in range(3) if len(told[at]) < len(expected[0])])
                came = answer(parted.hand(at).ask)
                if came[0] == "thing":
                    told[at].append(came[1])
                self.assertEqual(parted.held(), parted.told_many() - min(hand.place() for hand in map(parted.hand,
                    range(3))))
            self.check_told(told, [expected[0]] * 3)
            kinds = Kinds(row_of(plan, shelf.copied()), (("times", 0),))
            self.check_told(by_row(kinds.hand(0), MANY), expected)

    def test_what_is_told_ahead_is_so(self):
        for chance, plan, shelf in runs(300, seed=907):
            told = told_ahead(plan, shelf)
            row = row_of(plan, shelf.copied())
            if told[0] in ("ends", "faults"):
                self.assertIs(round_of(plan, shelf), None)
                came = by_row(row, told[1] + 1)
                if came is not None:
                    self.check_told([len(came[0]), came[1][0] == "over"], [told[1], told[0] == "ends"])
                    self.check_told(list(row.asked().items()), told[2])
            elif told[0] == "endless":
                self.assertIs(shows_round(plan, shelf, round_of(plan, shelf)), True)
                came = by_row(row, told[1] + 3 * told[2])
                self.assertTrue(came is None or came[1] is None)
            elif told[0] == "waits":
                came = by_row(row, told[1] + 1)
                self.assertIs(came, None)

    def test_a_plan_made_otherwise_tells_alike_and_the_cheapest_is_shown(self):
        for chance, plan, shelf in runs(250, seed=908, most=6):
            for head in (("first", 3), ("turned", ON), ("skip", 1), ("turned", ())):
                plan = (*head, plan)
            try:
                best, cost, way = cheapest(plan)
            except TooMuch:
                continue
            self.assertIs(shows_cheapest(plan, cheapest_paper(plan)), True)
            self.assertLessEqual(cost, cost_of(plan))
            one, other = shelf.copied(), shelf.copied()
            expected = by_row(row_of(plan, one), MANY)
            if expected is not None:
                self.check_told(by_row(row_of(best, other), MANY), expected)
                for name in shelf.names():
                    self.assertLessEqual(other.told_of(name), one.told_of(name))

    def test_two_plans_are_alike_or_the_least_that_part_them_are_told(self):
        looked = {True: 0, False: 0}
        for chance, plan, _ in runs(400, seed=909, most=4):
            plan = ("first", 3, renamed(plan, {name: chance.choice("ab") for name in names_in(plan)}))
            fits = [(rule, spot) for spot in spots_of(plan) for rule in rules_at(plan, spot)]
            if plain_told(plan, shelf_of(a=Source([]), b=Source([])), MANY)[1] == "open" or sum(looked.values()) > 60:
                continue
            other = rewritten(plan, *chance.choice(fits)) if fits else ("skip", 1, plan)
            contents = parted_by(plan, other)
            looked[contents is None] += 1
            for _ in range(10 if contents is None else 0):
                drawn = {name: [chance.randint(0, 2) for _ in range(chance.randint(0, 3))]
                         for name in sorted({*names_in(plan), *names_in(other)})}
                shelf = shelf_of(**{name: Source(things) for name, things in drawn.items()})
                self.check_told(plain_told(plan, shelf, MANY), plain_told(other, shelf, MANY))
                self.assertIs(shows_parted(plan, other, drawn), False)
            if contents is not None:
                self.assertIs(shows_parted(plan, other, contents), True)
        self.assertGreater(min(looked.values()), 5)

    def test_what_is_written_is_read_as_what_was_written(self):
        for plan in [*PLANS, *EDGES]:
            self.check_told(read_plan(plan_text(plan)), plan)
        for deeds in DEEDS:
            self.check_told(read_deeds(deeds_text(deeds)), deeds)
        for tests in TESTS:
            self.check_told(read_tests(tests_text(tests)), tests)

    def test_with_sources_called_otherwise_all_is_told_likewise(self):
        for chance, plan, shelf in runs(250, seed=910):
            names = moved(names_in(plan))
            other, other_shelf = renamed(plan, names), shelf_moved(shelf)
            many = chance.randint(0, MANY)
            self.check_told(plain_told(other, other_shelf, many), plain_told(plan, shelf, many))
            self.check_told(needs_told(other, other_shelf, many), needs_told(plan, shelf, many))
            self.check_told(told_ahead(other, other_shelf), told_ahead(plan, shelf))
            self.check_told(round_of(other, other_shelf), round_of(plan, shelf))
            self.check_told([what_matters(other, spot) for spot in spots_of(other)],
                            [what_matters(plan, spot) for spot in spots_of(plan)])
            self.check_told([nodes_in(other), cost_of(other)], [nodes_in(plan), cost_of(plan)])
            self.check_likewise(chance, plan, shelf, other, other_shelf, many)
            try:
                best, cost, way = cheapest(plan)
                self.check_told(cheapest(other), (renamed(best, names), cost, way))
            except TooMuch:
                self.check_refused(TooMuch, {"many": 301}, cheapest, other)

    def check_likewise(self, chance, plan, shelf, other, other_shelf, many):
        if plain_told(plan, shelf, many)[1] != "open":
            log = log_due(plan, shelf, many)
            called = [(*row[:2], moved([row[2]])[row[2]]) if row[0] == "open" else row for row in log]
            self.check_told(log_due(other, other_shelf, many), called)
            self.assertIs(first_unlike(other, other_shelf, many, called), None)
        order = [chance.choice(spots_of(plan)) for _ in range(40)]
        hands = Hands(plan, shelf.copied()), Hands(other, other_shelf.copied())
        lots = Lots(plan, shelf.copied()), Lots(other, other_shelf.copied())
        for spot in order:
            self.assertIs(hands[0].turn(spot), hands[1].turn(spot))
        self.check_told([hands[1].told(), hands[1].waiting(), hands[1].asked()],
            [hands[0].told(), hands[0].waiting(), hands[0].asked()])
        for size in (1, 3, 9):
            came = answer(lots[0].lot, size)
            if came[0] == "fault":
                came = ("fault", moved([came[1]])[came[1]], came[2])
            self.check_told(answer(lots[1].lot, size), came)

    def test_parted_by_with_sources_called_otherwise(self):
        one, other = ("behind", ("from", "a"), ("from", "b")), ("behind", ("from", "b"), ("from", "a"))
        for names in ({"a": "x", "b": "y"}, {"a": "p", "b": "q"}):
            told = parted_by(one, other)
            self.check_told(parted_by(renamed(one, names), renamed(other, names)),
                {names[name]: told[name] for name in told})

    def test_runs_beside_one_another_on_one_shelf_tell_as_alone(self):
        for chance, plan, shelf in runs(100, seed=911):
            expected = by_row(row_of(plan, shelf.copied()), 6)
            if expected is None:
                continue
            row, lots, hands = row_of(plan, shelf), Lots(plan, shelf), Hands(plan, shelf, room=3)
            hands.run(spots_of(plan), 2)
            first = by_lots(chance, lots, 2)
            self.check_told(by_row(row, 6), expected)
            rest = by_lots(chance, lots, 4) if first[1] is None else ([], first[1])
            hands.run(spots_of(plan), 6)
            self.check_told(first[0] + rest[0], expected[0])
            self.check_told(hands.told(), expected[0])

    def test_an_empty_shelf(self):
        self.check_told(by_row(row_of(("count", 1, 1, 2), Shelf()), 3), ([1, 2], ("over",)))


if __name__ == "__main__":
    unittest.main()
